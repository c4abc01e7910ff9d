import PyProof.Rows.All
import KE.KNest
import Wide.All
import OpenK.AllK
import Wide.FinOn
import Lean
import PyProof.EqAt
import PyProof.EqKinds
import PyProof.TupleCall
import PySem.Challenge.RW_dimhouse_k73_coming_up
open Array renaming length_toList→qh5,getElem?_eq_getElem→qy7,getElem?_toList→zc2
open BEq renaming comm→qz9
open Bool renaming and_eq_true→qa1,false_ne_true→qb7,and_eq_true_iff→qc7,false_eq_true→qe9,or_eq_true→qh2,not_eq_true'→qj1,and_true→qn8,eq_iff_iff→qo7,not_true→qs8,and_eq_false_imp→qu3,or_eq_false_iff→qv5,and_assoc→qy3,true_and→qz8,and_false→zd3,false_or→ze3
open Eq renaming trans→qu1
open False renaming elim→qk9
open ForInStep renaming yield→qp0
open Function renaming comp_def→qb4
open Inhabited renaming default→za1
open Int renaming eq_ofNat_of_zero_le→qf4,emod_lt_of_pos→qf9,emod_nonneg→qg5,toNat_natCast→ql0,zero_add→qm5,add_zero→qs2,fdiv_eq_ediv_of_nonneg→qw8
open Lean renaming maxHeartbeats→zd6
open List renaming map_cons→qa3,mem_of_getElem?→qa4,length_map→qa6,getElem?_map→qa8,getD_eq_getElem?_getD→qb0,replicate→qb1,size_toArray→qb5,length_cons→qb8,mem_map→qb9,all_eq_true→qc0,mem_cons→qc3,length_append→qc4,nodup_cons→qc6,range→qc8,map_map→qd1,getElem?_cons_succ→qd2,all_cons→qd4,mem_range→qd5,map_append→qd6,append_assoc→qd8,getElem?_set_self→qe0,mem_append_right→qe4,append_nil→qe5,mem_cons_of_mem→qe7,nodup_append→qe8,getElem?_append_right→qf0,getElem?_cons_zero→qf3,length_nil→qf6,map_nil→qf8,replicate_succ→qg2,map_congr_left→qg3,getElem?_eq_none→qg4,mem_append→qh1,contains_iff_mem→qh8,isEmpty_iff→qi5,length→qj0,getElem?_append_left→qj2,mem_cons_self→qk0,lookup_cons→qk3,flatten_cons→ql2,lookup→ql3,find?_cons→ql4,getElem_mem→ql7,nodup_range→ql8,any_cons→qm0,length_singleton→qm1,pairwise_cons→qm4,ext_getElem?→qn5,nil_append→qp3,take_sublist→qp7,length_take→qq4,not_mem_nil→qq7,drop_length→qq8,filterMap_cons→qr0,getElem?_eq_getElem→qr4,getElem?_take_of_lt→qr8,getElem?_replicate→qs5,foldl_cons→qs6,length_range→qt7,find?→qt9,mem_iff_getElem?→qu4,zipWith→qu5,map_set→qu6,eq_nil_of_length_eq_zero→qv0,cons_append→qv1,getElem?_set_ne→qv2,mem_of_mem_take→qv4,mem_filter→qw0,mem_filterMap→qx0,mem_singleton→qx5,all_nil→qx7,nodup_nil→qy1,getElem?_zip_eq_some→qy2,drop_eq_getElem_cons→qy4,length_drop→za4,map_fst_zip→za6,take_of_length_le→zb4,of_mem_zip→zc0,getElem?_zipWith→zc8,length_filter_le→zc9,foldl→zd1,map_take→ze7,all_map→zf6,map→zg2
open List.Pairwise renaming map→qh9,nil→qz0
open List.cons renaming injEq→qs9
open Nat renaming ne_of_lt→qc5,lt_of_lt_of_le→qc9,le_trans→qd7,le_succ_of_le→qd9,add_sub_cancel_left→qg7,zero_le→qg8,lt_or_ge→qi4,ne_of_gt→qj7,lt_of_le_of_lt→qk1,lt_trans→qm2,lt_irrefl→qn6,le_succ→qn7,not_lt→qo2,lt_succ_self→qq3,le_refl→qq9,le_of_lt→qr6,add_sub_cancel→qs7,succ_le_succ→qu9,min_eq_left→qw6,sub_zero→qx4,sub_eq_zero_of_le→zc5,add_comm→zf5,add_zero→zf7,reduceLT→zf8,zero_add→zf9
open Ne renaming symm→qj5
open Option renaming bind_some→qa0,map_some→qa9,map_eq_some_iff→qe1,bind_eq_some_iff→qk7,isNone_iff_eq_none→qn0,join_some→qq6,isSome_iff_exists→qr7,isSome_map→qy9,getD_none→za5,map→zd2
open Option.some renaming inj→qd3,injEq→qt5
open PyProof.Rows renaming slot_tuple_getitem→qn3,callWith_type1→qo6,subscriptTail_builtinR→zb0,AllBare→zb5,subscriptTail→ze1,envOfC→zg3
open PySem renaming wpAny_pure→qa2,sizeLine→qa5,Shared→qa7,starEach→qb3,sizeLine_eq→qc1,compareOp→qe2,Program→qe3,mainGlobals→qf2,wpAny_call_entry→qf5,wpAny_newObj_type→qf7,bootBuiltins→qg0,wpAny_dictEntries→qg6,foldedSetIterable→qh6,wpAny_notOrdered_dict→qh7,binaryOp→qi0,tupleKind_room_in1→qi1,wpAny_richCompare_same_room→qi2,backTo→qi3,sysModules→qi7,assignEach→qi8,keywordEach→qi9,wpAny_holding→qj3,attributeBase→qj4,swapsWith→qj6,Builtin→qj8,wpAny_typeNameOfWhole_itemiter→qj9,wpAny_field→qk2,Around→qk4,wpAny_callSpecial?_slot→qk6,wpAny_bind→qk8,wpAny_Call_Name_kw→ql9,wpAny_setField_rec→qm3,wpAny_typeNameOf_itemiter→qm9,wpAny_passesOwn→qn2,wpAny_mono→qo0,holding→qo5,wpAny_dictEpoch→qo9,codeAny_builtin→qp1,wpAny_truthy_bool→qp5,backToKw→qp6,plainId_quiet→qp9,Operator→qq2,wpAny_isInstance→qq5,wpAny_pyIter_tuple→qs3,getattributeRaised→qt0,wpAny_isOneOf_itemiter→qt3,sliceBounds→qt4,FuncData→qu0,codeAny→qu7,noFill_tuple_add→qu8,rawInt→qv3,swapsWithSole→qv6,call_meets→qv8,letOwnedTupleGo→qw1,getMethod→qw2,wpAny_updateSeq→qw5,NameKind→qx2,concat_meets→qx3,standAt→qx8,Keyword→qy0,wpAny_seqItems→qy5,firstArgMember→qy6,tupleKind→qy8,wpAny_pyNext_tuple_item→qz4,behindInMarks→qz5,seq_tuple_add→qz6,assign→za2,pyNext→za3,wpAny_pyNext_list_item→za8,wpAny_pyNext_tuple_end→za9,wpAny_execs_nil→zb6,PassesOwn→zb7,wpAny_pyNext_list_end→zb8,codeAny_mono→zb9,wpAny_typeOf→zc1,call_meetsIn→zc3,builtinLookup_eq_fast→zc7,callWith→zd0,wpAny_setField→zd4,callerA→zd5,wpAny_standAt→zd9,swappedStores→ze0,seqIndex?→ze2,compPost→ze4,comprehension→ze5,builtinsNs→ze8,valueAt→ze9,wpAny_rule→zf0,IsPart→zf3,seqIndex_neg→zf4,bindArgs→zg0,getItem→zg4,updateSeq→zg5
open PySem.Around renaming under_plainId→qk5,under→zf1
open PySem.AutoSeq1 renaming wpAny_loadPart'→qs0
open PySem.Builtin renaming bitAnd→qx9
open PySem.Builtin.Dict renaming dictSlotArgs→qe6,samePairs→qo3,showsAll→qo8,updateFrom→qz7
open PySem.Builtin.Dict_items renaming ownsTuple→qo4,ownedTupleFields→qr2,ownedTupleIsFree→qr3,pairFromOwner→qt1
open PySem.Builtin.List renaming listExtendWith→qp2,listTooLong→qr9,listSameRef→qz3,listItems→zb2
open PySem.Builtin.Slice renaming slicePlaces→qm7,sliceAdjust→qq0,sliceApplied→qw9
open PySem.Builtin.SmallTypes renaming nextOf→qm8
open PySem.Builtin.Str renaming occurrences→qs4
open PySem.Builtin.Tuple renaming tupleExact→qn4
open PySem.Calls renaming callWith_builtin→qt2,Name_function_global→qw7,spliced_cons→qx1
open PySem.Code renaming isFrame→zf2
open PySem.F renaming slot_dict_itemiterator_next→qh4,slot_tuple_iterator_next→ql5,slot_tuple_getattribute→qq1,slot_list_getattribute→qs1,args_dict_itemiterator_next_1→qt8,entry_dict_itemiterator_next→qu2,args_tuple_iterator_next_1→qv7,entry_tuple_iterator_next→qw4,slot_dict_items_iter→zb1
open PySem.Heap renaming lt_size→qb2,get?_push_size→qc2,get?_update_self→qg1,SameBut→qg9,get?_update_other→qi6,size_push→qo1,get?_push_of_some→za7
open PySem.Heap.SameBut renaming update→qr1
open PySem.MeetsSeq3 renaming plain_eq_loop→qn9,entry_eq_loop→za0
open PySem.NameKind renaming free→qh3
open PySem.Obj renaming mapSeq→ql1
open PySem.SeqAt renaming EqAt→qf1,RcAt→qz1,RcNeAt→zc6
open PySem.SeqAt.EqAt renaming same→qw3,of_refs→qx6
open PySem.SeqAt.RcAt renaming lists_lengths→qz2
open PySem.Str renaming ofString→qd0,ofString_eq_toList→zb3
open PySem.Txt renaming join→zg1
open PySem.Value renaming ref→qb6,none→qh0,type→qp4,bool→qr5,noConfusion→qt6,int→zd7,str→zd8
open Std.Legacy.Range renaming forIn_eq_forIn_range'→qp8,size→zc4
open Sum renaming inl→qm6,inr→qn1
open Sum.inr renaming inj→qv9,injEq→ze6
open True renaming intro→ql6
set_option Elab.async false
set_option linter.all false
set_option compiler.extract_closed false
local macro_rules|`(tactic|rcases $h:ident)=>`(tactic|split at $h:ident<;>first|(cases $h:ident;done)|skip)
local macro_rules|`(command|omit x)=>`(command|set_option tactic.hygienic true)
local macro_rules|`(‹$t›)=>`(by simpa using $t)
local macro_rules|`(tactic|rwa[$r,*]$(l)?)=>do
 let a:=r.getElems.map λx=>Lean.mkNode ``Lean.Parser.Tactic.simpLemma #[Lean.mkNullNode,x.raw[0],x.raw[1]]
 `(tactic|simp only[$a,*]$(l)?)
open Lean Parser Tactic in
local macro_rules|`(tactic|have⟨$p,*⟩:=$e)=>do
 let w k a:=mkNode ``rcasesPatLo #[mkNode ``rcasesPatMed #[mkNullNode #[mkNode (`Lean.Parser.Tactic.rcasesPat++k) a]],mkNullNode]
 `(tactic|obtain $(⟨((←`(⟨$p,*⟩)).raw.rewriteBottomUp λx=>if x.isIdent then w `one #[x] else if x.isOfKind ``Term.hole then w `ignore x.getArgs else if x.isOfKind ``Term.anonymousCtor then w `tuple x.getArgs else x)[0]⟩):rcasesPatMed:=$e)
open Lean in
def mL0(s:String):=(s.splitOn " ").toArray.map λs=>mkNode ``Parser.Tactic.simpLemma #[mkNullNode,mkNullNode,mkIdent (`L2++s.toName)]
def mD0:="lent vw vwO bC ixV ixO asI dN bR qN vws ug bList eJ bLen oAdd oSub orO eG uc oEq oNe gEq eqdi eqds eqdb eqdn eqdx eqdy eqdz eqdw oLt oGt xu oIs vf gIs fin T.d al dats CV.sol CV.kp CV.old cV eN cJ cH ib getV cS Cv finL C5 hb_3 ofS"
namespace ZH
open PySem PySem.W PyProof.Rows
def trees:List Obj→BT→Nat→Option (BT×Nat)
  | [],t,n=>some (t,n)
  | o::r,t,n=>match ((t.ins n o).get n).isSome with
    | true=>trees r (t.ins n o) (n+1)
    | false=>none
def topRunT (tb:String→Option Builtin) (p:Program) (w:World) (n₀:Nat) (ann:Option Value):Nat→SharedT→Thread→Option SharedT
  | 0,_,_=>none
  | n+1,s,t=>match through t with
    | true=>some s
    | false=>match stepOk n₀ ann t with
      | false=>none
      | true=>match stepT (denote tb) p w s t with
        | some (s',t')=>topRunT tb p w n₀ ann n s' t'
        | none=>none
def toT (s:Shared):Option SharedT:=(trees s.heap.objs.toList .nil 0).map fun q=>⟨q.1,q.2,s.heap.life,s.gens,s.drawn,s.toks,s.os⟩
section
variable {tb:String→Option Builtin} {p:Program} {w:World} {n₀:Nat} {ann:Option Value}
theorem topRun_of:∀ {n:Nat} {s s':SharedT} {t:Thread},topRunT tb p w n₀ ann n s t=some s'→topRun tb p w n₀ ann n s.abs t=some s'.abs
  | 0,_,_,_,h=>by cases h
  | n+1,s,s',t,h=>by
    unfold topRunT at h
    unfold topRun
    cases he:through t with
    | true=>rw [he] at h;cases h;rfl
    | false =>
      rw [he] at h
      cases hk:stepOk n₀ ann t with
      | false=>rw [hk] at h;cases h
      | true =>
        rw [hk] at h
        cases hs:stepT (denote tb) p w s t with
        | none=>rw [hs] at h;cases h
        | some r=>obtain ⟨s₂,t₂⟩:=r;rw [hs] at h;rw [stepT_spec hs];exact topRun_of h
theorem trees_abs {life:Life}:∀ {l:List Obj} {t t':BT} {n n':Nat},trees l t n=some (t',n')→(absHeap t' n' life).objs.toList=(absHeap t n life).objs.toList++l
  | [],t,t',n,n',h=>by cases h;simp
  | o::r,t,t',n,n',h=>by
    unfold trees at h
    cases q:((t.ins n o).get n).isSome with
    | false=>rw [q] at h;cases h
    | true =>
      rw [q] at h
      rw [trees_abs h,absHeap_ins q]
      show ((absHeap t n life).objs.push o).toList++r=_
      rw [Array.toList_push,List.append_assoc];rfl
theorem toT_abs {s:Shared} {sT:SharedT} (h:toT s=some sT):sT.abs=s:=by
  obtain ⟨⟨heap,life⟩,gens,drawn,toks,os⟩:=s
  unfold toT at h
  obtain ⟨⟨t,n⟩,h1,rfl⟩:=Option.map_eq_some_iff.mp h
  have e:=trees_abs (life:=life) h1
  have e0:(absHeap BT.nil 0 life).objs.toList=[]:=rfl
  rw [e0,List.nil_append] at e
  have e1:(absHeap t n life).objs=heap:=Array.toList_inj.mp e
  show Shared.mk (absHeap t n life) gens drawn toks os=_
  have e2:absHeap t n life=⟨heap,life⟩:=by
    have:absHeap t n life=⟨(absHeap t n life).objs,life⟩:=rfl
    rw [this,e1]
  rw [e2]
def tp {γ:Type} (p:Program) (w w':World) (N:Nat) (A:Shared→Shared→γ):Option γ:=(fencedOpening treeTable p w N).bind fun s=>(toT s).bind fun sT=>(topRunT treeTable p w' s.heap.objs.size (s.heap.nsMap mainGlobals "__annotations__") N sT (topStub p)).map fun z=>A s z.abs
def ckT (p:Program) (s₀ s₁:Shared):Bool:=(s₀.heap.isNs mainGlobals&&s₀.gens.size==0)&&(staticsOk (importedModules p.main.body) s₀.heap s₁.heap&&namesBound p s₁.heap&&gensDone s₁&&laidKept s₀.heap s₁.heap)
theorem tp3 {w':World} {N:Nat} {α β γ:Type} {A:Shared→α×β} {C:Shared→γ} {a:α} {b:β} {c:γ} (h1:tp p w w' N (fun s z=>(ckT p s z,(A z).1))=some (true,a)) (h2:tp p w w' N (fun _ z=>(A z).2)=some b) (h3:tp p w w' N (fun _ z=>C z)=some c):(fencedOpening treeTable p w N).map (fun s₀=>(topFrom treeTable p w' N s₀).map fun z=>(A z,C z))=some (some ((a,b),c)):=by
  unfold tp at h1 h2 h3
  obtain ⟨s,q1,h1⟩:=Option.bind_eq_some_iff.mp h1
  obtain ⟨sT,q2,h1⟩:=Option.bind_eq_some_iff.mp h1
  obtain ⟨z,q3,h1⟩:=Option.map_eq_some_iff.mp h1
  rw [q1,Option.bind_some,q2,Option.bind_some,q3] at h2 h3
  have e2:(A z.abs).2=b:=Option.some.inj h2
  have e3:C z.abs=c:=Option.some.inj h3
  obtain ⟨k1,k2⟩:=Prod.mk.inj h1
  have hr:=topRun_of q3
  rw [toT_abs q2] at hr
  obtain ⟨k3,k4⟩:=Bool.and_eq_true_iff.mp k1
  rw [q1]
  show some ((topFrom treeTable p w' N s).map _)=_
  unfold topFrom
  rw [k3]
  dsimp only
  rw [hr,Option.bind_some,k4]
  show some (some (A z.abs,C z.abs))=_
  rw [e3,← k2,← e2]
end
end ZH
namespace P73H
open PySem PySem.W PyProof.Rows
section
local macro_rules | `(tactic| o_head $_) => `(tactic| exact (by assumption : ∀ p : Prop, p) _)
set_option maxRecDepth 100000 in
set_option maxHeartbeats 0 in
theorem pre (h0:∀ p:Prop,p):PySem.Challenge.rw_dimhouse_k73_coming_up.row.Holds:=by
  k_head
end
def seen:Program:={PySem.Challenge.pw_dimhouse_k73_coming_up with main:={PySem.Challenge.pw_dimhouse_k73_coming_up.main with body:=[0,1,3,4,5,6,8,10,11,12,13,14,16,18,20,21,22,23,24,25,26,27,28,29,30,31,32,33,34,35,36,37,38,39,40,41,42].filterMap fun i=>PySem.Challenge.pw_dimhouse_k73_coming_up.main.body[i]?}}
noncomputable abbrev hook:Hook:=kHook P73H.pre.heap_1 [2,3,15,17,18,20,21,22,24,25,27,28,29,32,33,34,36,37,39,40,41,43,44,46,47,55,57,58,60,61,62,64,65,67,68,69,71,72,74,75,76,78,79,81,82,83,84,85,86,87,97,99,100,102,103,104,106,107,109,110,111,112,113,114,115,118,121,122,123,125,126,128,129,130,133,134,135,137,138,140,141,149,152,153,154,156,157,159,160,161,163,164,166,167,168,170,171,173,174,175,177,178,180,181,182,184,185,187,188,189,191,192,194,195,196,198,199,201,202,203,205,206,208,209,210,212,213,215,216,217,219,220,222,223,224,226,227,229,230,231,233,234,236,237,238,240,241,243,244,245,246,247,248,249,259,262,263,264,266,267,269,270,271,273,274,276,277,278,280,281,283,284,285,287,288,290,291,292,294,295,297,298,299,301,302,304,305,306,308,309,311,312,313,315,316,318,319,320,322,323,325,326,327,329,330,332,333,334,336,337,339,340,341,343,344,346,347,348,350,351,353,354,355,357,358,360,361,362,364,365,367,368,369,371,372,374,375,376,378,379,381,382,383,385,386,388,389,390,392,393,395,396,397,399,400,402,403,404,406,407,409,410,411,413,414,416,417,418,419,420,421,422,425,427,428,430,431,432,434,435,437,438,439,442,443,444,446,447,449,450,451,453,454,456,457,458,461,462,463,465,466,468,469,470,472,473,475,476,477,480,481,482,485,486,487,489,490,492,493,494,496,497,499,500,501,504,505,506,508,509,511,512,513,515,516,518,519,520,522,523,525,526,527,529,530,532,533,534,536,537,539,540,541,543,544,546,547,548,550,551,553,554,555,557,558,560,561,562,564,565,567,568,569,571,572,574,575] (fun _=>by kernel_rfl)
abbrev pg:=PySem.Challenge.rw_dimhouse_k73_coming_up.row.prog
abbrev oA (s:Shared):=openSeen seen [] (importedModules pg.main.body) (fun s=>xlAt seen [] s&&recOk (RowW.records (OpenRow.toRowW PySem.Challenge.rw_dimhouse_k73_coming_up.row)) s) true s
theorem map_two {α β γ:Type} {x:Option α} {f:α→β} {g:α→γ} {a:β} {b:γ} (h:x.map f=some a) (h':x.map g=some b):x.map (fun s=>(f s,g s))=some (a,b):=by
  cases x with
  | none=>cases h
  | some s=>simp only [Option.map_some,Option.some.injEq] at h h' ⊢;rw [h,h']
set_option maxRecDepth 100000
set_option maxHeartbeats 0
abbrev tq {γ:Type} (b:Bool) (w:World) (A:Shared→Shared→γ):Option γ:=ZH.tp pg w (w.withFollow "special-get-raises" b) 8500 A
abbrev gd:=openGood seen []
theorem ra_false (w:World):tq false w (fun s z=>(ZH.ckT pg s z,(oA z).1))=some (true,gd.1):=by
  kernel_rfl
theorem rb_false (w:World):tq false w (fun _ z=>(oA z).2)=some gd.2:=by
  kernel_rfl
theorem rc_false (w:World):tq false w (fun _ z=>Hook.obs hook z)=some (Hook.val hook (w.withFollow "special-get-raises" false)):=by
  kernel_rfl
theorem ra_true (w:World):tq true w (fun s z=>(ZH.ckT pg s z,(oA z).1))=some (true,gd.1):=by
  kernel_rfl
theorem rb_true (w:World):tq true w (fun _ z=>(oA z).2)=some gd.2:=by
  kernel_rfl
theorem rc_true (w:World):tq true w (fun _ z=>Hook.obs hook z)=some (Hook.val hook (w.withFollow "special-get-raises" true)):=by
  kernel_rfl
theorem ws:PySem.Challenge.rw_dimhouse_k73_coming_up.wellSaid=true:=by
  kernel_rfl
end P73H
set_option maxRecDepth 100000
set_option maxHeartbeats 4000000
set_option genSizeOf false
set_option genInjectivity false
set_option bootstrap.genMatcherCode false
set_option tactic.hygienic false
open PySem.W renaming Frag->xA9,findIn->xB9,kia_one->xC9,nsIn->xD9,emptyDict->xE9,keepIn->xF9,instObj->xG9,isFn->xH9,kitOne->xI9,plainGet->xJ9,lookIn->xK9,hasDictIn->xL9,kitx_dict->xM9,mg_of->xN9,methodObj->xO9,plainGet_of->xP9,plainOver->xQ9,takerIn->xR9,makesIn->xS9,methodCall_KW->xT9,kitx_list->xU9,callWith_K->xV9,callWith_K0->xW9
open PySem renaming Addr->J4,World->J5,Stmt->J6,Expr->J8,Scope->J9
noncomputable section
theorem χ{p:Prop}(h:p:=by decide +kernel):p:=h
theorem Ψ{p:Prop}(h:p:=by walk_at "x"):p:=h
theorem Θ{p:Prop}(h:p:=by lia):p:=h
theorem Ξ{p:Prop}(h:p:=by simp):p:=h
theorem Ω{p:Prop}(h:p:=by decide):p:=h
open Option renaming some->ς,none->ψ
open Bool renaming true->θ,false->ξ
abbrev η:=@List
abbrev ζ:=@Option
theorem gX{α:Type _}{l:η α}{i:Nat}{a:α}(h:l[i]?=ς a):∃z:i<l.length,l[i]=a:=List.getElem?_eq_some_iff.mp h
open PySem PySem.Spec PyProof.Rows in abbrev gN := @List.getElem?_set_ne
open PySem PySem.Spec PyProof.Rows in abbrev gP := @Heap.get?_push_of_some
open PySem PySem.Spec PyProof.Rows in abbrev wB := @wpAny_bind
open PySem PySem.Spec PyProof.Rows in abbrev gL := @List.getElem?_append_left
open PySem PySem.Spec PyProof.Rows in abbrev gR := @List.getElem?_append_right
open PySem PySem.Spec PyProof.Rows in abbrev gQ := @List.getElem?_eq_getElem
open PySem PySem.Spec PyProof.Rows in abbrev nL := @Nat.le_refl
set_option maxRecDepth 100000
set_option maxHeartbeats 4000000
namespace L2
open PySem PySem.Spec PyProof.Rows
abbrev Key:=Sum Int Str
noncomputable def iY:Key->Value->Bool
 |.inl k,v=>Value.isInt k v
 |.inr x,v=>Value.isStrOf x v
noncomputable def keyH(w:J5):Key->Int
 |.inl k=>hashInt k
 |.inr x=>hashStr w x
theorem az:∀{k:Key}{v:Value},iY k v=θ->(∃i t,k=qm6 i/\v=zd7 i t)\/(∃x t,k=qn1 x/\v=zd8 x t)
 |.inl i,v,h=>by have⟨t,e⟩:=Value.isInt_shape (k:=i) (v:=v) h;exact .inl ⟨i,t,rfl,e⟩
 |.inr x,v,h=>by have⟨t,e⟩:=Value.isStrOf_shape (x:=x) (v:=v) h;exact .inr ⟨x,t,rfl,e⟩
theorem qj(i:Int)(t:Tok):iY (.inl i) (.int i t)=θ:=by simp[iY,Value.isInt]
theorem qk(x:Str)(t:Tok):iY (.inr x) (.str x t)=θ:=by simp[iY,Value.isStrOf]
theorem Ak(a b:Int):decide ((qm6 a:Key)=qm6 b)=(a==b):=by
 by_cases e:a=b
 .subst e;simp
 .have h:¬ (qm6 a:Key)=qm6 b:=λq=>e (qm6.inj q)
  rw[decide_eq_false h];exact(beq_eq_false_iff_ne.mpr e).symm
theorem Al(a b:Str):decide ((qn1 a:Key)=qn1 b)=decide (a=b):=by
 by_cases e:a=b
 .subst e;simp
 .have h:¬ (qn1 a:Key)=qn1 b:=λq=>e (qv9 q)
  rw[decide_eq_false h,decide_eq_false e]
theorem Am(a:Int)(b:Str):decide ((qm6 a:Key)=qn1 b)=ξ:=decide_eq_false (λq=>nomatch q)
theorem Ao(a:Str)(b:Int):decide ((qn1 a:Key)=qm6 b)=ξ:=decide_eq_false (λq=>nomatch q)
def aj(prog:qe3)(w:J5):PySem.KeyKind prog w Key where
 is:=iY
 hash:=keyH w
 inj:=λv a b W hb=>by
  rcases az W with ⟨i,t,rfl,rfl⟩|⟨x,t,rfl,rfl⟩
  .rcases az hb with ⟨j,u,rfl,e⟩|⟨y,u,rfl,e⟩
   .injection e with O _;rw[O]
   .exact nomatch e
  .rcases az hb with ⟨j,u,rfl,e⟩|⟨y,u,rfl,e⟩
   .exact nomatch e
   .injection e with O _;rw[O]
 byValue:=λk v h=>by rcases az h with ⟨i,t,rfl,rfl⟩|⟨x,t,rfl,rfl⟩<;>rfl
 pyHash:=λU h=>by
  rcases az U with ⟨i,t,rfl,rfl⟩|⟨x,t,rfl,rfl⟩
  .exact wpAny_pyHash_int h
  .exact wpAny_pyHash_str h
 eqBool:=λY U h=>by
  rcases az Y with ⟨i,t,rfl,rfl⟩|⟨x,t,rfl,rfl⟩
  .rcases az U with ⟨j,u,rfl,rfl⟩|⟨y,u,rfl,rfl⟩
   .rw[Ak]at h;exact wpAny_eqBool_int h
   .rw[Am]at h;exact qf1.int_str i t y u _ _ _ _ h
  .rcases az U with ⟨j,u,rfl,rfl⟩|⟨y,u,rfl,rfl⟩
   .rw[Ao]at h;exact qf1.str_int x t j u _ _ _ _ h
   .rw[Al]at h;exact wpAny_eqBool_str h
 «strs»:=λk x t v h=>by
  rcases az h with ⟨i,u,rfl,e⟩|⟨y,u,rfl,e⟩
  .exact nomatch e
  .injection e with O _;subst O;cases v<;>rfl
theorem lr(prog:qe3)(w:J5)(i:Int)(t:Tok):(aj prog w).is (.inl i) (.int i t)=θ:=qj i t
theorem lu(prog:qe3)(w:J5)(x:Str)(t:Tok):(aj prog w).is (.inr x) (.str x t)=θ:=qk x t
set_option genInjectivity true in
inductive V where
 |non|bl (b:Bool)|int (i:Int)|str (x:Str)|byt (b:Array UInt8)|flt (b:UInt64)|ref (a:J4)|ty (n:String)
 deriving DecidableEq
def RelV:V->Value->Prop
 |.non,u=>u=qh0
 |.bl b,u=>u=qr5 b
 |.int i,u=>∃t,u=zd7 i t
 |.str x,u=>∃t,u=zd8 x t
 |.byt b,u=>∃t,u=Value.bytes b t
 |.flt b,u=>∃t,u=Value.float b t
 |.ref a,u=>u=qb6 a
 |.ty n,u=>u=qp4 n
abbrev Vals:η V->η Value->Prop:=Paired RelV
variable{xs:η V}{us:η Value}
theorem Vals.length(r:Vals xs us):xs.length=us.length:=Paired.length r
theorem Vals.get:∀{xs:η V}{us:η Value}{i:Nat}{x:V},Vals xs us->xs[i]?=ς x->∃u,us[i]?=ς u/\RelV x u
 |_,_,_,_,.nil,e=>by simp at e
 |_,_,0,_,.cons r _,e=>by simp at e;subst e;exact⟨_,rfl,r⟩
 |_,_,i+1,x,.cons _ t,e=>by have⟨u,h1,h2⟩:=Vals.get (i:=i) (x:=x) t ‹e›;exact⟨u,‹h1›,h2⟩
variable{u:Value}
theorem Vals.set{x:V}(r:RelV x u):∀{xs:η V}{us:η Value}(i:Nat),Vals xs us->Vals (xs.set i x) (us.set i u)
 |_,_,_,.nil=>.nil
 |_,_,0,.cons _ t=>.cons r t
 |_,_,i+1,.cons q t=>.cons q (Vals.set r i t)
theorem Vals.append:∀{xs ys:η V}{us ws:η Value},Vals xs us->Vals ys ws->Vals (xs++ys) (us++ws)
 |_,_,_,_,.nil,s=>s
 |_,_,_,_,.cons r t,s=>.cons r (Vals.append t s)
theorem Vals.take:∀{xs:η V}{us:η Value}(n:Nat),Vals xs us->Vals (xs.take n) (us.take n)
 |_,_,0,_=>.nil
 |_,_,_+1,.nil=>.nil
 |_,_,n+1,.cons r t=>.cons r (Vals.take n t)
theorem Vals.drop:∀{xs:η V}{us:η Value}(n:Nat),Vals xs us->Vals (xs.drop n) (us.drop n)
 |_,_,0,r=>r
 |_,_,_+1,.nil=>.nil
 |_,_,n+1,.cons _ t=>Vals.drop n t
def RelO:ζ V->ζ Value->Prop
 |some v,ς u=>RelV v u
 |none,ψ=>True
 |_,_=>False
def KV{κ:Type}:η (κ×V)->η (κ×Value)->Prop:=Paired λ(p:κ×V)(q:κ×Value)=>p.1=q.1/\RelV p.2 q.2
noncomputable def kV:Key->V
 |.inl i=>.int i
 |.inr x=>.str x
inductive HO where
 |e (xs:List V)
 |t (xs:List V)
 |dK (J1:List (Key×V))|dT (J1:List (List Key×V))
 |set (S:Int->Bool) (n:Nat)
 |ins (C dx:J4) (fs:List (Str×V))
 |own (x:J4)
 |xd (fs:List (Str×V))
 |met (f x:J4)
 |rng (lo hi:Int)
 |frz (o:Obj) (u:HO)
 |tbl (ps:Array Value)
 |code (q:Str)
 |ctab (qs:List ((Nat×Nat)×Str))
 |ext (φ:Heap->Prop)
abbrev Hp:=J4->ζ HO
noncomputable def upd(H:Hp)(a:J4)(o:HO):Hp:=λb=>if b=a then ς o else H b
variable{H:Hp}{a:J4}
theorem ac{o:HO}:upd H a o a=ς o:=by unfold upd;rw[if_pos rfl]
theorem af{b:J4}{o:HO}(h:b≠a):upd H a o b=H b:=by unfold upd;rw[if_neg h]
theorem wC{b:J4}{o u:HO}(h:H a=ς o)(h':H b=ς u)(d:o≠u):a≠b:=by intro e;subst e;rw[h]at h';exact d (qd3 h')
theorem aD{b:J4}{o:HO}(h:H a=ς o)(h':H b=ψ):a≠b:=by intro e;subst e;rw[h]at h';cases h'
def IsTu(h:Heap)(a:J4)(items:Array Value):Prop:=IsTup h a items/\∀o,h.get? a=ς o->o.dict=ψ
variable{items:Array Value}
theorem IsTu.of{h:Heap}{o:Obj}{n:Nat}(e:h.get? a=ς o)(hc:o.cls=.type "tuple")(O:o.data=.seq items n)(U:o.dict=ψ):IsTu h a items:=⟨⟨o,e,hc,n,O⟩,λu q=>by rw[e]at q;cases q;exact U⟩
theorem IsTu.new(h:Heap)(items:Array Value):IsTu (h.push {cls:=.type "tuple",data:=.seq items}) h.objs.size items:=.of (qc2 _ rfl) rfl rfl rfl
theorem IsTu.kept{h h':Heap}(x:IsTu h a items)(k:∀u,h.get? a=ς u->h'.get? a=ς u):IsTu h' a items:=by have⟨⟨o,e,hc,n,U⟩,O⟩:=x;exact .of (k o e) hc U (O o e)
section
variable(P:qe3)(w:J5)
def ObjOk(H:Hp)(h:Heap)(a:J4):HO->Prop
 |.e xs=>xs.length<=qa5/\∃(J3:η Value)(n:Nat),Vals xs J3/\h.get? a=ς {cls:=.type "list",data:=.seq J3.toArray n}
 |.t xs=>xs.length<=qa5/\∃J3:η Value,Vals xs J3/\IsTu h a J3.toArray
 |.dK J1=>J1.length<=qa5/\(a==qi7)=ξ/\∃vs,KV J1 vs/\h.DictOf (aj P w) a vs
 | .dT J1=>J1.length<=qa5/\(a==qi7)=ξ/\∃xs:η (η Key×J4×Value),
     Paired (λ(p:η Key×V)(q:η Key×J4×Value)=>p.1=q.1/\H q.2.1=ς (.t (p.1.map kV))/\RelV p.2 q.2.2) J1 xs∧
     ∃o es ep,h.get? a=ς o/\o.ExactDict/\o.data=.dict es ep/\es.toList=xs.map (entryOfKey (qy8 (aj P w)))/\(xs.map (·.1)).Nodup
 |.set S n=>h.SetOf (intKind P w) a S n
 |.ins C dx fs=>H dx=ς (.own a)/\fs.length<=1000/\dx≠a/\h.get? a=ς (xG9 C dx)∧∃mA,h.Ns1 dx mA/\(∀f,RelO (fs.lookup f) (mA f))/\PySem.Within mA (fs.map (·.1))
 |.own _=>∃o,h.get? a=ς o
 |.xd fs=>∃mA,h.Ns1 a mA/\∀f,RelO (fs.lookup f) (mA f)
 |.rng lo hi=>∃t u v,h.get? a=ς {cls:=.type "range",data:=.fields #[.int lo t,.int hi u,.int 1 v]}
 |.frz o u=>h.get? a=ς o/\ObjOk H h a u
 |.tbl ps=>h.get? a=ς {cls:=.none,data:=.fields ps}
 |.code q=>h.CodeRec (.ref a) q
 |.ctab O=>∃ps:Array Value,h.get? a=ς {cls:=.none,data:=.fields ps}/\TriplesOk ps.toList/\∀(pos:Pos)(q:Str)(v:Value),((pos.line,pos.col),q)∈O->codeAmong pos ps.toList=ς v->∃c o,v=.ref c/\H c=ς (.frz o (.code q))
 |.met f x=>h.get? a=ς (xO9 (.ref f) (.ref x))
 |.ext φ=>φ h/\(∃o,h.get? a=ς o)/\∀h1 h2:Heap,φ h1->(∀o,h1.get? a=ς o->h2.get? a=ς o)->φ h2
def HOk(H:Hp)(h:Heap):Prop:=∀a o,H a=ς o->ObjOk P w H h a o
end
section
variable{P:qe3}{w:J5}{H H':Hp}{h h':Heap}{a:J4}{o:HO}
theorem ObjOk.lt(x:ObjOk P w H h a o):a<h.objs.size:=by
 cases o with
 |e xs=>have⟨_,_,_,_,e⟩:=x;exact qb2 e
 |t xs=>have⟨_,_,_,p⟩:=x;exact p.1.lt
 |dK J1=>have⟨_,_,_,_,o,_,_,e,_⟩:=x;exact qb2 e
 |dT J1=>have⟨_,_,_,_,o,_,_,e,_⟩:=x;exact qb2 e
 |set S n=>have⟨o,_,_,_,e,_⟩:=x;exact qb2 e
 |ins C dx fs=>have⟨_,_,_,e,_⟩:=x;exact qb2 e
 |own y=>have⟨_,e⟩:=x;exact qb2 e
 |xd fs=>have⟨_,⟨_,_,_,e,_⟩,_⟩:=x;exact qb2 e
 |rng lo hi=>have⟨_,_,_,e⟩:=x;exact qb2 e
 |frz ob u=>have⟨e,_⟩:=x;exact qb2 e
 |tbl ps=>exact qb2 (show h.get? a=ς _ from x)
 |code q=>have⟨c,o,vs,t,e,g,_⟩:=x;cases e;exact qb2 g
 |ctab O=>have⟨ps,g,_⟩:=x;exact qb2 g
 |met f y=>exact qb2 (show h.get? a=ς _ from x)
 |ext φ=>have⟨_,⟨_,e⟩,_⟩:=x;exact qb2 e
theorem Paired.mapP{α β:Type}{F G:α->β->Prop}:∀{O:η α}{U:η β},Paired F O U->(∀a b,F a b->G a b)->Paired G O U
 |_,_,.nil,_=>.nil
 |_,_,.cons r t,f=>.cons (f _ _ r) (Paired.mapP t f)
theorem ObjOk.stay (x:ObjOk P w H h a o) (k:∀ b u,(b=a\/H b=ς (.own a))->h.get? b=ς u->h'.get? b=ς u)
  (ho:∀b,H b=ς (.own a)->H' b=ς (.own a)) (ht:∀b xs,H b=ς (.t xs)->H' b=ς (.t xs)) (O:∀b ob q,H b=ς (.frz ob (.code q))->H' b=ς (.frz ob (.code q))):ObjOk P w H' h' a o:=by
 induction o with
 |e xs=>have⟨z,J3,n,r,e⟩:=x;exact⟨z,J3,n,r,k _ _ (.inl rfl) e⟩
 |t xs=>have⟨z,J3,r,t⟩:=x;exact⟨z,J3,r,t.kept λu e=>k _ _ (.inl rfl) e⟩
 |dK J1=>have⟨z,y,vs,r,ob,es,ep,e,c⟩:=x;exact⟨z,y,vs,r,ob,es,ep,k _ _ (.inl rfl) e,c⟩
 |dT J1=>have⟨z,y,xs,r,ob,es,ep,e,c⟩:=x;exact⟨z,y,xs,Paired.mapP r λp q z=>⟨z.1,ht _ _ z.2.1,z.2.2⟩,ob,es,ep,k _ _ (.inl rfl) e,c⟩
 |set S n=>have⟨ob,es,ep,t,e,c⟩:=x;exact⟨ob,es,ep,t,k _ _ (.inl rfl) e,c⟩
 |ins C dx fs=>have⟨d,z,ne,e,mA,⟨U,es,ep,e2,c⟩,r⟩:=x;exact⟨ho _ d,z,ne,k _ _ (.inl rfl) e,mA,⟨U,es,ep,k _ _ (.inr d) e2,c⟩,r⟩
 |own y=>have⟨ob,e⟩:=x;exact⟨ob,k _ _ (.inl rfl) e⟩
 |xd fs=>have⟨mA,⟨U,es,ep,e,c⟩,r⟩:=x;exact⟨mA,⟨U,es,ep,k _ _ (.inl rfl) e,c⟩,r⟩
 |rng lo hi=>have⟨t,u,v,e⟩:=x;exact⟨t,u,v,k _ _ (.inl rfl) e⟩
 |frz ob u Y=>have⟨e,q⟩:=x;exact⟨k _ _ (.inl rfl) e,Y q⟩
 |tbl ps=>have e:h.get? a=ς {cls:=.none,data:=.fields ps}:=x;show h'.get? a=ς {cls:=.none,data:=.fields ps};exact k a _ (.inl rfl) e
 |code q=>have⟨c,o,vs,t,e,g,r⟩:=x;cases e;exact⟨a,o,vs,t,rfl,k a _ (.inl rfl) g,r⟩
 |ctab qs=>have⟨ps,g,Z,r2⟩:=x;exact⟨ps,k a _ (.inl rfl) g,Z,λpos q v h1 h2=>let ⟨c,ob,e,g⟩:=r2 pos q v h1 h2;⟨c,ob,e,O c ob q g⟩⟩
 |met f y=>have e:h.get? a=ς (xO9 (.ref f) (.ref y)):=x;show h'.get? a=ς (xO9 (.ref f) (.ref y));exact k a _ (.inl rfl) e
 |ext φ=>have⟨p,⟨o,e⟩,st⟩:=x;exact⟨st _ _ p λo q=>k _ _ (.inl rfl) q,⟨o,k _ _ (.inl rfl) e⟩,st⟩
theorem HOk.lt(x:HOk P w H h)(e:H a=ς o):a<h.objs.size:=(x a o e).lt
theorem HOk.fresh(x:HOk P w H h)(e:h.objs.size<=a):H a=ψ:=by
 cases q:H a with
 |none=>rfl
 |some u=>exact absurd (qc9 (x.lt q) e) (qn6 _)
theorem HOk.kept(x:HOk P w H h)(k:∀b u,h.get? b=ς u->h'.get? b=ς u):HOk P w H h':=λa o e=>(x a o e).stay (λb u _ q=>k b u q) (λ_ q=>q) (λ_ _ q=>q) λ_ _ _ q=>q
theorem HOk.laid(x:HOk P w H h)(k:∀b u,h.get? b=ς u->h'.get? b=ς u)(hp:h.objs.size<=a)(new:ObjOk P w (upd H a o) h' a o):HOk P w (upd H a o) h':=λb u e=>by
 have O:=x.fresh hp;by_cases hb:b=a
 .subst hb;rw[ac]at e;cases e;exact new
 .rw[af hb]at e;exact(x b u e).stay (λc v _ q=>k c v q) (λc q=>by rw[af (aD q O)];exact q) (λc xs q=>by rw[af (aD q O)];exact q) λc ob xs q=>by rw[af (aD q O)];exact q
end
def Rd(H:Hp)(a:J4)(u:HO):Prop:=H a=ς u\/∃o,H a=ς (.frz o u)
theorem Rd.of{u:HO}(h:H a=ς u):Rd H a u:=.inl h
variable{P:qe3}
theorem Rd.ok{w:J5}{h:Heap}{u:HO}(r:Rd H a u)(x:HOk P w H h):ObjOk P w H h a u:=by
 rcases r with r|⟨o,r⟩
 .exact x a u r
 .have⟨_,q⟩:=x a _ r;exact q
def Mut:ζ HO->Prop
 |some (.e _)=>True
 |some (.dK _)=>True
 |some (.dT _)=>True
 |some (.set _ _)=>True
 |some (.ins _ _ _)=>True
 |some (.ext _)=>True
 |_=>False
section
variable{P:qe3}{w:J5}{H:Hp}{h h':Heap}{x e:J4}{o':HO}
theorem HOk.write (ok:HOk P w H h) (W:Mut (H x)) (he:e=x\/H e=ς (.own x)) (k:∀ b u,b≠e->h.get? b=ς u->h'.get? b=ς u) (heo:∃ u,h'.get? e=ς u)
  (new:ObjOk P w (upd H x o') h' x o'):HOk P w (upd H x o') h':=λb u q=>by
 have U:∀c y,H c=ς (.own y)->c≠x:=λc y r z=>by subst z;rw[r]at W;exact W
 have Z:∀c xs,H c=ς (.t xs)->c≠x:=λc xs r z=>by subst z;rw[r]at W;exact W
 have Y:∀c ob xs,H c=ς (.frz ob (.code xs))->c≠x:=λc ob xs r z=>by subst z;rw[r]at W;exact W
 by_cases hb:b=x
 .subst hb;rw[ac]at q;cases q;exact new
 .rw[af hb]at q;by_cases O:b=e
  .have q':H b=ς (.own x):=by
    rcases he with z|z
    .exact absurd (O.trans z) hb
    .rw[O];exact z
   rw[q]at q';cases q'
   have⟨v,hv⟩:=heo;exact⟨v,by rw[O];exact hv⟩
  .refine(ok b u q).stay (λc v hc r=>k c v ?_ r) (λc r=>by rw[af (U c b r)];exact r) (λc xs r=>by rw[af (Z c xs r)];exact r) λc ob xs r=>by rw[af (Y c ob xs r)];exact r
   rcases hc with rfl|hc
   .exact O
   .rintro rfl;rcases he with z|z
    .exact U c b hc z
    .rw[hc]at z;cases z;exact hb rfl
end
structure Un(fs ex:List J4)(H H':Hp)(h h':Heap):Prop where
 keep:∀b o,h.get? b=ς o->H b=ψ->b∉fs->b∉ex->h'.get? b=ς o
 slot:∀b o,h.get? b=ς o->H b=ψ->b∈fs->b∉ex->∃sl,h'.get? b=ς {o with slots:=sl}
 free:∀b o,h.get? b=ς o->H b=ψ->b∉ex->H' b=ψ
 there:∀b o,h.get? b=ς o->b∉ex->∃o',h'.get? b=ς o'
 tups:∀b xs,H b=ς (.t xs)->H' b=ς (.t xs)
 frzs:∀b o u,H b=ς (.frz o u)->H' b=ς (.frz o u)
 tbls:∀b ps,H b=ς (.tbl ps)->∃more,H' b=ς (.tbl (ps++more))
 cts:∀b qs,H b=ς (.ctab qs)->H' b=ς (.ctab qs)
section
variable{fs fs' ex ex':η J4}{H H1 H2:Hp}{h h1 h2 h':Heap}{a x e:J4}{o:HO}
theorem Un.any(u:Un fs ex H H1 h h1){b:J4}{ob:Obj}(q:h.get? b=ς ob)(n:H b=ψ)(O:b∉ex):∃sl,h1.get? b=ς {ob with slots:=sl}:=by
 by_cases hb:b∈fs
 .exact u.slot b ob q n hb O
 .exact⟨ob.slots,u.keep b ob q n hb O⟩
theorem Un.kept(k:∀b u,h.get? b=ς u->h'.get? b=ς u):Un fs ex H H h h':=⟨λb ob q _ _ _=>k b ob q,λb ob q _ _ _=>⟨ob.slots,k b ob q⟩,λ_ _ _ n _=>n,λb ob q _=>⟨ob,k b ob q⟩,λ_ _ q=>q,λ_ _ _ q=>q,λ_ ps q=>⟨#[],by rw[q];simp⟩,λ_ _ q=>q⟩
theorem Un.refl:Un fs ex H H h h:=Un.kept λ_ _ q=>q
theorem Un.laid(k:∀b u,h.get? b=ς u->h'.get? b=ς u)(hp:h.objs.size<=a)(O:H a=ψ):Un fs ex H (upd H a o) h h' where
 keep:=λb u q _ _ _=>k b u q
 slot:=λb u q _ _ _=>⟨u.slots,k b u q⟩
 free:=λb u q n _=>by rw[af (qc5 (qc9 (qb2 q) hp))];exact n
 there:=λb u q _=>⟨u,k b u q⟩
 tups:=λb xs q=>by rw[af (aD q O)];exact q
 frzs:=λb u xs q=>by rw[af (aD q O)];exact q
 tbls:=λb ps q=>⟨#[],by rw[af (aD q O),q];simp⟩
 cts:=λb U q=>by rw[af (aD q O)];exact q
theorem Un.write(W:Mut (H x))(he:e=x\/H e=ς (.own x))(k:∀b u,b≠e->h.get? b=ς u->h'.get? b=ς u)(Y:∃u,h'.get? e=ς u):Un fs ex H (upd H x o) h h':=by
 have Z:∀b,H b=ψ->b≠x:=λb n z=>by subst z;rw[n]at W;exact W
 have hb:∀b,H b=ψ->b≠e:=λb n z=>by
  subst z;rcases he with r|r
  .exact Z b n r
  .rw[n]at r;cases r
 have U:∀b u,H b=ς u->¬ Mut (ς u)->b≠x:=λb u q nm z=>by subst z;rw[q]at W;exact nm W
 refine⟨λb u q n _ _=>k b u (hb b n) q,λb u q n _ _=>⟨u.slots,k b u (hb b n) q⟩,λb u q n _=>by rw[af (Z b n)];exact n,λb u q _=>?_,λb xs q=>by rw[af (U b _ q λz=>z)];exact q,λb u xs q=>by rw[af (U b _ q λz=>z)];exact q,λb ps q=>⟨#[],by rw[af (U b _ q λz=>z),q];simp⟩,λb xs q=>by rw[af (U b _ q λz=>z)];exact q⟩
 by_cases O:b=e
 .subst O;exact Y
 .exact⟨u,k b u O q⟩
end
noncomputable def trk(h:Heap)(H:Hp):η J4:=(qc8 h.objs.size).filter λa=>(H a).isSome
def jR(h:Heap)(H:Hp):Heap:=PySem.W.hideAll h (trk h H)
theorem ql(h:Heap)(H:Hp):(jR h H).objs.size=h.objs.size:=PySem.W.hideAll_size _ _
theorem si{h:Heap}{b:J4}{o:Obj}(e:h.get? b=ς o)(n:H b=ψ):(jR h H).get? b=ς o:=PySem.W.hideAll_get _ e λO=>by have q:(H b).isSome=θ:=(qw0.mp O).2;rw[n]at q;simp at q
theorem wD{h:Heap}{b:J4}{o:Obj}(e:(jR h H).get? b=ς o):h.get? b=ς o/\H b=ψ:=by
 have O:h.get? b=ς o:=PySem.W.of_hideAll (trk h H) e;refine⟨O,?_⟩;cases q:H b with
 |none=>rfl
 |some x=>have U:b∈trk h H:=qw0.mpr ⟨qd5.mpr (qb2 O),by simp[q]⟩;have z:(jR h H).get? b=ψ:=PySem.W.hideAll_none (trk h H) U;rw[z]at e;cases e
noncomputable def wE(g h:Heap)(L:J4):η (J4×Obj):=(qc8 h.objs.size).filterMap λa=>if a=L\/(g.get? a).isSome=θ then ψ else(h.get? a).map λo=>(a,o)
def rest(g h:Heap)(L d:J4):η (J4×Obj):=(wE g h L).filter λp=>decide (p.1≠d)
noncomputable def nestNames:η Str:=["way_to_reading","spoilt"]
noncomputable def DH(x:Str)(ss:η J6):η ((Nat×Nat)×Str):=ss.filterMap λst=>match st with
 |.FunctionDef name _ _ _ _ _ _ _ _ pos=>ς ((pos.line,pos.col),x++".<locals>."++name)
 |_=>ψ
def Ap(K:xA9)(x:Str):ζ (J4×η ((Nat×Nat)×Str)):=match PySem.W.tabIn K x with
 |some (_,P)=>(match xD9 K qf2 x with
  |some (ς (.ref f))=>(match K.lookup f with
   |some o=>(match o.data with
    |.func fd=>(match fd.body with
     |.stmts b=>ς (P,DH x b)
     |_=>ψ)
    |_=>ψ)
   |none=>ψ)
  |_=>ψ)
 |none=>ψ
def lw(K:xA9):η (J4×η ((Nat×Nat)×Str)):=nestNames.filterMap (Ap K)
structure Mod(K:xA9)(mg:Str->Option Value)(base:Heap):Prop where
 kin:K.In base
 glob:base.Ns qf2 mg
 blt:∃mb,base.Ns ze8 mb/\∀x:Str,x≠"__name__"->mb x=qg0 x
 nolimit:base.NoLimit
structure Cx where
 prog:qe3
 w:J5
 K:xA9
 mg:Str->Option Value
 base:Heap
 A:qk4
 N:List Str
 s₀:qa7
 H₀:Hp
 env:Env
 outer:List Env
 stack:List Env
 ex:List J4
 fn:Str->Bool
 calm:Bool
 pn:List (J4×Obj)
 xe:Value->qa7->Prop
noncomputable def frs(l:η Env):η J4:=l.filterMap (·.frame)
abbrev Cx.fs(X:Cx):η J4:=frs X.outer
def Vis(sc:J9)(x:Str):Prop:=sc.names.lookup x=ς .local\/sc.names.lookup x=ς .cell\/sc.names.lookup x=ς .free
def Loc(sc:J9)(x:Str):Prop:=sc.names.lookup x=ς .local\/sc.names.lookup x=ς .cell
def Look(env:Env)(h:Heap)(m:Str->ζ Value)(x:Str)(u:Value):Prop:=(env.kindOf x=ς .local/\m x=ς u)\/((env.kindOf x=ς .cell\/env.kindOf x=ς .free)/\∃c,env.cells.lookup x=ς c/\h.IsCell c (ς u))
structure Cx.Ok(X:Cx):Prop where
 mod:Mod X.K X.mg X.base
 kind:X.env.scope.kind=.function
 glob:X.env.globals=qf2
 blt:X.env.builtins=ze8
 above:X.s₀.heap.objs.size<=X.env.locals
 inj:∀x y c,X.env.cells.lookup x=ς c->X.env.cells.lookup y=ς c->x=y
 has:∀x,(X.env.kindOf x=ς .cell\/X.env.kindOf x=ς .free)->∃c,X.env.cells.lookup x=ς c
 cab:∀x c,X.fn x=θ->X.env.cells.lookup x=ς c->X.s₀.heap.objs.size<=c
 hd:X.calm=θ->X.A.handled=ψ
 frames:X.A.frames=ς X.stack
 stk:X.stack=X.outer\/(X.stack=X.env::X.outer/\X.env.frame=ς X.env.locals)
 exf:∀b∈X.ex,b≠X.env.locals/\∀x c,X.env.cells.lookup x=ς c->c≠b
 bs:∀b o,X.base.get? b=ς o->X.s₀.heap.get? b=ς o/\X.H₀ b=ψ
 bsz:X.base.objs.size<=X.s₀.heap.objs.size
 noex:∀b o,X.base.get? b=ς o->b∉X.ex
 exfs:∀b∈X.ex,b∉X.fs
 funs:X.s₀.heap.FunFrames X.base X.outer
 frf:∀b∈X.fs,X.H₀ b=ψ
 tb:∀p∈lw X.K,X.H₀ p.1=ς (.ctab p.2)
structure Inv(X:Cx)(J0:List (J4×Obj))(σ:List (Option V))(H:Hp)(s:qa7):Prop where
 ok:X.Ok
 os:s.os=X.s₀.os
 bare:zb5 s.gens
 base:Un X.fs X.ex X.H₀ H X.s₀.heap s.heap
 loc:∃m,s.heap.Ns X.env.locals m/\∀(i:Nat)(x:Str)(v:V),X.N[i]?=ς x->σ[i]?=ς (ς v)->Vis X.env.scope x->∃u,RelV v u/\Look X.env s.heap m x u
 cell:∀x c,X.env.cells.lookup x=ς c->∃v,s.heap.IsCell c v
 free:H X.env.locals=ψ
 freeC:∀x c,X.env.cells.lookup x=ς c->H c=ψ
 pin:∀p∈X.pn++J0,s.heap.get? p.1=ς p.2/\H p.1=ψ/\p.1≠X.env.locals/\p.1∉X.fs/\∀v,p.2.data≠.cell v
 hok:HOk X.prog X.w H s.heap
 len:σ.length=X.N.length
variable{g':Array GenState}{t' j:Nat}{d':Drawn}{ch:η J4}{N:η Str}{M:Model}{A:qk4}{s':qa7}
section
variable{X:Cx}{J0:η (J4×Obj)}{σ:η (ζ V)}{H H':Hp}{s:qa7}{h':Heap}
theorem Cx.Ok.nofr(ok:X.Ok){b:J4}{o:Obj}(e:X.base.get? b=ς o):b∉X.fs:=λhb=>by have:=(ok.funs.mem hb).1;rw[e]at this;cases this
theorem Inv.bs(I:Inv X J0 σ H s):∀b o,X.base.get? b=ς o->s.heap.get? b=ς o/\H b=ψ:=λb o e=>⟨I.base.keep b o (I.ok.bs b o e).1 (I.ok.bs b o e).2 (I.ok.nofr e) (I.ok.noex b o e),I.base.free b o (I.ok.bs b o e).1 (I.ok.bs b o e).2 (I.ok.noex b o e)⟩
theorem Inv.bk(I:Inv X J0 σ H s):∀b o,X.base.get? b=ς o->s.heap.get? b=ς o:=λb o e=>(I.bs b o e).1
theorem Inv.mod(I:Inv X J0 σ H s):Mod X.K X.mg X.base:=I.ok.mod
theorem Inv.kIn(I:Inv X J0 σ H s):X.K.In s.heap:=I.ok.mod.kin.keeps I.bk
theorem Inv.fr(I:Inv X J0 σ H s):∃m,Fr X.base X.env.locals s.heap m:=
 let ⟨m,hn,_⟩:=I.loc
 ⟨m,hn,I.bk,qd7 I.ok.bsz I.ok.above⟩
theorem Inv.lt(I:Inv X J0 σ H s):X.env.locals<s.heap.objs.size:=let ⟨_,hn,_⟩:=I.loc;hn.lt
theorem Inv.sz(I:Inv X J0 σ H s):X.s₀.heap.objs.size<=s.heap.objs.size:=qd7 I.ok.above (qr6 I.lt)
theorem Inv.nofs(I:Inv X J0 σ H s)(h:s.heap.objs.size<=a):a∉X.fs:=λhb=>by have⟨_,o,O,_⟩:=I.ok.funs.mem hb;exact absurd (qc9 (qb2 O) (qd7 I.sz h)) (qn6 _)
theorem Inv.cne(I:Inv X J0 σ H s):∀x c,X.env.cells.lookup x=ς c->c≠X.env.locals:=λx c e z=>by have⟨v,o,W,Y⟩:=I.cell x c e;have⟨m,⟨o',es,ep,U,O,_⟩,_⟩:=I.loc;rw[z,U]at W;cases W;rw[O]at Y;cases Y
theorem Inv.funs(I:Inv X J0 σ H s):s.heap.FunFrames X.base X.outer:=by
 have all:∀(l:η Env),(∀b∈frs l,b∈X.fs)->X.s₀.heap.FunFrames X.base l->s.heap.FunFrames X.base l:=by
  intro l;induction l with
  |nil=>intro _ _;trivial
  |cons env r Y=>
   intro W hl;have⟨Z,⟨L,o,O,hn,ho,hd⟩,hr⟩:=hl;have U:L∈X.fs:=W L (by unfold frs;rw[qr0,O];exact qk0);have⟨sl,e⟩:=I.base.slot L o ho (I.ok.frf L U) U λz=>I.ok.exfs L z U
   exact⟨Z,⟨L,_,O,hn,e,hd⟩,Y (λb hb=>W b (by unfold frs;rw[qr0,O];exact qe7 _ hb)) hr⟩
 exact all X.outer (λ_ hb=>hb) I.ok.funs
theorem Inv.stack(I:Inv X J0 σ H s):s.heap.FunFrames X.base X.stack:=by
 rcases I.ok.stk with e|⟨e,U⟩
 .rw[e];exact I.funs
 .rw[e];have⟨m,O,_⟩:=I.loc;refine .cons (by rw[I.ok.kind];decide) U O ?_ I.funs;exact Heap.get?_none_of_le (qd7 I.ok.bsz I.ok.above)
theorem Inv.stkSub(I:Inv X J0 σ H s):∀b∈frs X.stack,b∈X.env.locals::X.fs:=λb hb=>by
 rcases I.ok.stk with e|⟨e,O⟩
 .rw[e]at hb;exact qe7 _ hb
 .rw[e]at hb;unfold frs at hb;rw[qr0,O]at hb;exact hb
theorem Inv.stkFree(I:Inv X J0 σ H s):∀b∈frs X.stack,H b=ψ:=λb hb=>by
 rcases qc3.mp (I.stkSub b hb)with e|hb
 .rw[e];exact I.free
 .have⟨_,o,O,_⟩:=I.ok.funs.mem hb;exact I.base.free b o O (I.ok.frf b hb) λz=>I.ok.exfs b z hb
theorem Inv.step(I:Inv X J0 σ H s)
 (U:∀b∈ch,(b∈X.ex\/X.s₀.heap.objs.size<=b)/\b≠X.env.locals/\(∀x c,X.env.cells.lookup x=ς c->c≠b)/\∀p∈X.pn++J0,p.1≠b)
 (keep:∀b o,b≠X.env.locals->b∉X.fs->b∉ch->s.heap.get? b=ς o->H b=ψ->h'.get? b=ς o)
 (slot:∀b o,b≠X.env.locals->b∈X.fs->b∉ch->s.heap.get? b=ς o->H b=ψ->∃sl,h'.get? b=ς {o with slots:=sl}) (free:∀b o,b∉ch->s.heap.get? b=ς o->H b=ψ->H' b=ψ)
 (there:∀b o,b∉ch->s.heap.get? b=ς o->∃o',h'.get? b=ς o')
 (tups:∀b xs,H b=ς (.t xs)->H' b=ς (.t xs)) (frzs:∀b o u,H b=ς (.frz o u)->H' b=ς (.frz o u)) (tbls:∀b ps,H b=ς (.tbl ps)->∃more,H' b=ς (.tbl (ps++more))) (cts:∀b qs,H b=ς (.ctab qs)->H' b=ς (.ctab qs))
 (ns:∀m,s.heap.Ns X.env.locals m->h'.Ns X.env.locals m) (hok:HOk X.prog X.w H' h') (hg:zb5 g') :
  Inv X J0 σ H' {s with heap:=h',gens:=g',drawn:=d',toks:=t'}:=by
 have neL:∀b o,X.s₀.heap.get? b=ς o->b≠X.env.locals:=λb o e=>qc5 (qc9 (qb2 e) I.ok.above)
 have Z:∀b o,X.s₀.heap.get? b=ς o->b∉X.ex->b∉ch:=λb o e O hb=>by
  rcases(U b hb).1 with z|z
  .exact O z
  .exact absurd (qc9 (qb2 e) z) (qn6 _)
 have W:∀x c,X.env.cells.lookup x=ς c->∀v,s.heap.IsCell c v->h'.IsCell c v:=λx c e v hq1=>by
  have⟨o,ho,hd⟩:=hq1;have Y:c∉ch:=λz=>(U c z).2.2.1 x c e rfl
  by_cases hc:c∈X.fs
  .have⟨sl,q⟩:=slot c o (I.cne x c e) hc Y ho (I.freeC x c e);exact⟨_,q,hd⟩
  .exact⟨o,keep c o (I.cne x c e) hc Y ho (I.freeC x c e),hd⟩
 refine⟨I.ok,I.os,hg,⟨λb o e n hb O=>?_,λb o e n hb O=>?_,λb o e n O=>?_,λb o e O=>?_,λb xs e=>tups b xs (I.base.tups b xs e),λb o xs e=>frzs b o xs (I.base.frzs b o xs e),λb ps e=>?_,λb qs e=>cts b qs (I.base.cts b qs e)⟩,?_,λx c e=>?_,?_,λx c e=>?_,λp hp=>?_,hok,I.len⟩
 .exact keep b o (neL b o e) hb (Z b o e O) (I.base.keep b o e n hb O) (I.base.free b o e n O)
 .have⟨sl,e1⟩:=I.base.slot b o e n hb O;have⟨sl',e2⟩:=slot b _ (neL b o e) hb (Z b o e O) e1 (I.base.free b o e n O);exact⟨sl',e2⟩
 .have⟨o',e1⟩:=I.base.there b o e O;exact free b o' (Z b o e O) e1 (I.base.free b o e n O)
 .have⟨o',e1⟩:=I.base.there b o e O;exact there b o' (Z b o e O) e1
 .have⟨m1,e1⟩:=I.base.tbls b ps e;have⟨m2,e2⟩:=tbls b _ e1;exact⟨m1++m2,by rw[e2,Array.append_assoc]⟩
 .have⟨m,hn,hl⟩:=I.loc;refine⟨m,ns m hn,λi x v e1 e2 e3=>?_⟩;have⟨u,r,l⟩:=hl i x v e1 e2 e3;refine⟨u,r,?_⟩;rcases l with l|⟨k,c,e,z⟩
  .exact .inl l
  .exact .inr ⟨k,c,e,W x c e _ z⟩
 .have⟨v,z⟩:=I.cell x c e;exact⟨v,W x c e v z⟩
 .have⟨m,⟨o,_,_,ho,_⟩,_⟩:=I.loc;exact free _ o (λz=>(U _ z).2.1 rfl) ho I.free
 .have⟨v,o,ho,hd⟩:=I.cell x c e;exact free c o (λz=>(U c z).2.2.1 x c e rfl) ho (I.freeC x c e)
 .have⟨e,n,ne,nf,d⟩:=I.pin p hp;have Y:p.1∉ch:=λz=>(U p.1 z).2.2.2 p hp rfl
  exact⟨keep p.1 p.2 ne nf Y e n,free p.1 p.2 Y e n,ne,nf,d⟩
theorem Inv.un(I:Inv X J0 σ H s)(u:Un X.fs [] H H' s.heap h')(Y:HOk X.prog X.w H' h'):Inv X J0 σ H' {s with heap:=h',toks:=t'}:=by
 have⟨m,⟨o,es,ep,Z,r⟩,_⟩:=id I.loc;have⟨sl,hL⟩:=u.any Z I.free Ξ
 exact I.step (g':=s.gens) (d':=s.drawn) (ch:=[]) (λ_ z=>nomatch z) (λb o _ hb _ e n=>u.keep b o e n hb Ξ) (λb o _ hb _ e n=>u.slot b o e n hb Ξ) (λb o _ e n=>u.free b o e n Ξ) (λb o _ e=>u.there b o e Ξ) u.tups u.frzs u.tbls u.cts (λm' hm=>by
  have⟨o',U,W,O,r'⟩:=hm;rw[Z]at O;cases O
  exact⟨_,U,W,hL,r'⟩) Y I.bare
theorem Inv.call{ch:η J4}(I:Inv X J0 σ H s)(u:Un (frs X.stack) ch H H' s.heap h')(hok:HOk X.prog X.w H' h')(hg:zb5 g')
 (O:∀b∈ch,(b∈X.ex\/X.s₀.heap.objs.size<=b)/\b≠X.env.locals/\(∀x c,X.env.cells.lookup x=ς c->c≠b)/\∀p∈X.pn++J0,p.1≠b) :
  Inv X J0 σ H' {s with heap:=h',gens:=g',drawn:=d',toks:=t'}:=by
 have⟨m,⟨o,es,ep,ho,r⟩,_⟩:=id I.loc;have⟨sl,Z⟩:=u.any ho I.free λz=>(O _ z).2.1 rfl
 exact I.step (ch:=ch) O (λb o Z hb hc e n=>u.keep b o e n (λz=>(qc3.mp (I.stkSub b z)).elim Z hb) hc) (λb o _ _ hc e n=>u.any e n hc) (λb o hc e n=>u.free b o e n hc) (λb o hc e=>u.there b o e hc) u.tups u.frzs u.tbls u.cts (λm' hm=>by
  have⟨o',W,Y,U,r'⟩:=hm;rw[ho]at U;cases U
  exact⟨_,W,Y,Z,r'⟩) hok hg
theorem Inv.turned{it:J4}(I:Inv X J0 σ H s)(k:∀b o,b≠it->s.heap.get? b=ς o->h'.get? b=ς o)(W:H it=ψ)(U:it≠X.env.locals)
 (h1:it∈X.ex\/X.s₀.heap.objs.size<=it) (h2:∀x c,X.env.cells.lookup x=ς c->c≠it) (Y:∀p∈X.pn++J0,p.1≠it):Inv X J0 σ H {s with heap:=h',toks:=t'}:=by
 have O:∀b u,H b=ς u->b≠it:=λb u e z=>by rw[z,W]at e;cases e
 refine I.step (g':=s.gens) (d':=s.drawn) (ch:=[it]) (λb hb=>?_) (λb o _ _ hc e _=>k b o (λz=>hc (by simp[z])) e) (λb o _ _ hc e _=>⟨o.slots,k b o (λz=>hc (by simp[z])) e⟩) (λ_ _ _ _ n=>n)
  (λb o hc e=>⟨o,k b o (λz=>hc (by simp[z])) e⟩) (λ_ _ e=>e) (λ_ _ _ e=>e) (λb ps e=>⟨#[],by rw[e];simp⟩) (λ_ _ e=>e) (λm hm=>?_) (λb u e=>?_) I.bare
 .have e:b=it:=‹hb›
  subst e;exact⟨h1,U,h2,Y⟩
 .have⟨o,es,ep,Z,r⟩:=hm;exact⟨o,es,ep,k _ o (qj5 U) Z,r⟩
 .refine(I.hok b u e).stay (λc v hc q=>k c v ?_ q) (λ_ q=>q) (λ_ _ q=>q) λ_ _ _ q=>q
  rcases hc with z|z
  .rw[z];exact O b u e
  .exact O c _ z
theorem Inv.tok(I:Inv X J0 σ H s)(t:Nat):Inv X J0 σ H {s with toks:=t}:=I.un (h':=s.heap) (t':=t) Un.refl I.hok
theorem Inv.kept(I:Inv X J0 σ H s)(k:∀b u,s.heap.get? b=ς u->h'.get? b=ς u):Inv X J0 σ H {s with heap:=h',toks:=t'}:=I.un (Un.kept k) (I.hok.kept k)
theorem Inv.laid {o:HO} (I:Inv X J0 σ H s) (k:∀ b u,s.heap.get? b=ς u->h'.get? b=ς u) (hp:s.heap.objs.size<=a) (new:ObjOk X.prog X.w (upd H a o) h' a o) :
  Inv X J0 σ (upd H a o) {s with heap:=h',toks:=t'}:=I.un (Un.laid k hp (I.hok.fresh hp)) (I.hok.laid k hp new)
theorem Inv.write{x e:J4}{o:HO}(I:Inv X J0 σ H s)(U:Mut (H x))(he:e=x\/H e=ς (.own x))(k:∀b u,b≠e->s.heap.get? b=ς u->h'.get? b=ς u)(O:∃u,h'.get? e=ς u)(new:ObjOk X.prog X.w (upd H x o) h' x o):Inv X J0 σ (upd H x o) {s with heap:=h',toks:=t'}:=I.un (Un.write U he k O) (I.hok.write U he k O new)
theorem Inv.weak{O:η (ζ V)}(I:Inv X J0 σ H s)(hl:O.length=σ.length)(w:∀(i:Nat) v,O[i]?=ς (ς v)->σ[i]?=ς (ς v)):Inv X J0 O H s:=⟨I.ok,I.os,I.bare,I.base,let ⟨m,hn,hl'⟩:=I.loc;⟨m,hn,λi x v W e2 U=>hl' i x v W (w i v e2) U⟩,I.cell,I.free,I.freeC,I.pin,I.hok,hl.trans I.len⟩
theorem Inv.pins_of{O:η (J4×Obj)}(I:Inv X J0 σ H s)(h:∀p∈O,s.heap.get? p.1=ς p.2/\H p.1=ψ/\p.1≠X.env.locals/\p.1∉X.fs/\∀v,p.2.data≠.cell v):Inv X O σ H s:=⟨I.ok,I.os,I.bare,I.base,I.loc,I.cell,I.free,I.freeC,λp hp=>(qh1.mp hp).elim (λz=>I.pin p (List.mem_append_left _ z)) (h p),I.hok,I.len⟩
theorem gU(O:N.Nodup){i:Nat}{x:Str}(a:N[i]?=ς x)(b:N[j]?=ς x):i=j:=by have⟨h1,U⟩:=gX a;have⟨h2,e2⟩:=gX b;exact(List.getElem_inj O).mp (U.trans e2.symm)
theorem iZ{E:Value->qa7->Prop}{i:Nat}{x:Str}{v:V}{Q:Unit->qa7->Prop}(I:Inv X J0 σ H s)(hN:X.N.Nodup)(hi:X.N[i]?=ς x)(Y:Loc X.env.scope x)(r:RelV v u)
 (h:∀s',Inv X J0 (σ.set i (ς v)) H s'->(∃a,qg9 a s.heap s'.heap/\(a=X.env.locals\/X.env.cells.lookup x=ς a))->Q () s') (hf:X.fn x=θ\/X.env.scope.names.lookup x=ς .local:=by first|exact .inl rfl|exact .inr rfl|assumption):wpAny M A (storeName X.env x u) Q E s:=by
 have⟨m,hn,hl⟩:=id I.loc;have hcls:(X.env.scope.kind==.class||(X.env.scope.kind==.module&&X.env.locals != X.env.globals))=ξ:=by rw[I.ok.kind];rfl
 have hiσ:i<σ.length:=by rw[I.len];exact(gX hi).1
 have cne:=I.cne
 have U:∀{a:J4}{h':Heap},(∃o,s.heap.get? a=ς o/\H a=ψ)->qg9 a s.heap h'->HOk X.prog X.w H h':=λ{a h'} ha O b ob e=>by
  have⟨_,_,Z⟩:=ha;refine(I.hok b ob e).stay (λc w' hc q=>(O.2 c ?_).trans q) (λ_ q=>q) (λ_ _ q=>q) λ_ _ _ q=>q
  rintro rfl;rcases hc with rfl|hc
  .rw[Z]at e;cases e
  .rw[Z]at hc;cases hc
 rcases Y with hk|hk
 .refine wpAny_storeName_local hk hn (λh' hn' O=>?_) hcls;have⟨oL,_,_,hoL,_⟩:=id hn;refine h _ ⟨I.ok,I.os,I.bare,⟨λb o e n hb Y=>?_,λb o e n hb Y=>?_,I.base.free,λb o e Y=>?_,I.base.tups,I.base.frzs,I.base.tbls,I.base.cts⟩,⟨_,hn',λj y v' W e2 e3=>?_⟩,λy c e=>?_,I.free,I.freeC,λp hp=>?_,U ⟨oL,hoL,I.free⟩ O,‹I.len›⟩ ⟨_,O,.inl rfl⟩
  .exact(O.2 b (qc5 (qc9 (qb2 e) I.ok.above))).trans (I.base.keep b o e n hb Y)
  .have⟨sl,W⟩:=I.base.slot b o e n hb Y;exact⟨sl,(O.2 b (qc5 (qc9 (qb2 e) I.ok.above))).trans W⟩
  .have⟨o',W⟩:=I.base.there b o e Y;exact⟨o',(O.2 b (qc5 (qc9 (qb2 e) I.ok.above))).trans W⟩
  .by_cases hj:j=i
   .subst hj;rw[hi]at W;cases W
    rw[qe0 hiσ]at e2;cases e2;exact⟨u,r,.inl ⟨hk,Ξ⟩⟩
   .rw[gN (qj5 hj)]at e2;have⟨u',r',q⟩:=hl j y v' W e2 e3;refine⟨u',r',?_⟩;rcases q with ⟨k,e⟩|⟨k,c,e,z⟩
    .refine .inl ⟨k,?_⟩;have:y≠x:=λe=>hj (gU hN W (e▸hi))
     simp[this,e]
    .exact .inr ⟨k,c,e,z.sameBut O (cne y c e)⟩
  .have⟨w',z⟩:=I.cell y c e;exact⟨w',z.sameBut O (cne y c e)⟩
  .have⟨e,n,ne,nf,d⟩:=I.pin p hp;exact⟨(O.2 p.1 ne).trans e,n,ne,nf,d⟩
 .have hfn:X.fn x=θ:=by
   rcases hf with z|z
   .exact z
   .rw[z]at hk;cases hk
  have⟨c,hc⟩:=I.ok.has x (.inl hk);have⟨w',z⟩:=I.cell x c hc;refine wpAny_storeName_cell I.ok.kind hk hc z (λh' hc' O=>?_);have⟨oc,hoc,hocd⟩:=id z;refine h {s with heap:=h'} ⟨I.ok,I.os,I.bare,⟨λb o e n hb Y=>?_,λb o e n hb Y=>?_,I.base.free,λb o e Y=>?_,I.base.tups,I.base.frzs,I.base.tbls,I.base.cts⟩,⟨m,hn.sameBut O (qj5 (cne x c hc)),λj y v' W e2 e3=>?_⟩,λy c' e=>?_,I.free,I.freeC,λp hp=>?_,U ⟨oc,hoc,I.freeC x c hc⟩ O,‹I.len›⟩ ⟨c,O,.inr hc⟩
  .exact(O.2 b (qc5 (qc9 (qb2 e) (I.ok.cab x c hfn hc)))).trans (I.base.keep b o e n hb Y)
  .have⟨sl,W⟩:=I.base.slot b o e n hb Y;exact⟨sl,(O.2 b (qc5 (qc9 (qb2 e) (I.ok.cab x c hfn hc)))).trans W⟩
  .have⟨o',W⟩:=I.base.there b o e Y;exact⟨o',(O.2 b (qc5 (qc9 (qb2 e) (I.ok.cab x c hfn hc)))).trans W⟩
  .by_cases hj:j=i
   .subst hj;rw[hi]at W;cases W
    rw[qe0 hiσ]at e2;cases e2;exact⟨u,r,.inr ⟨.inl hk,c,hc,hc'⟩⟩
   .rw[gN (qj5 hj)]at e2;have⟨u',r',q⟩:=hl j y v' W e2 e3;refine⟨u',r',?_⟩;rcases q with q|⟨k,c',e,z'⟩
    .exact .inl q
    .refine .inr ⟨k,c',e,z'.sameBut O ?_⟩;rintro rfl;exact hj (gU hN W (I.ok.inj _ _ _ e hc▸hi))
  .by_cases hcc:c'=c
   .subst hcc;exact⟨_,hc'⟩
   .have⟨w2,z2⟩:=I.cell y c' e;exact⟨w2,z2.sameBut O hcc⟩
  .have⟨e,n,ne,nf,d⟩:=I.pin p hp;refine⟨(O.2 p.1 ?_).trans e,n,ne,nf,d⟩;intro q;rw[q,hoc]at e;have q':oc=p.2:=qd3 e;exact d w' (by rw[<- q'];exact hocd)
theorem dH{E:Value->qa7->Prop}{i:Nat}{x:Str}{v:V}{Q:Unit->qa7->Prop}(I:Inv X J0 σ H s)(O:X.N.Nodup)(hi:X.N[i]?=ς x)(W:Loc X.env.scope x)(r:RelV v u)
 (h:∀s',Inv X J0 (σ.set i (ς v)) H s'->Q () s') (Y:X.fn x=θ\/X.env.scope.names.lookup x=ς .local:=by first|exact .inl rfl|exact .inr rfl|assumption):wpAny M A (storeName X.env x u) Q E s:=
 iZ I O hi W r (λs' U _=>h s' U) Y
theorem Inv.call'(I:Inv X J0 σ H s)(W:s'.os=s.os)(u:Un (frs X.stack) ch H H' s.heap s'.heap)(U:HOk X.prog X.w H' s'.heap)(Y:zb5 s'.gens)
 (O:∀b∈ch,(b∈X.ex\/X.s₀.heap.objs.size<=b)/\b≠X.env.locals/\(∀x c,X.env.cells.lookup x=ς c->c≠b)/\∀p∈X.pn++J0,p.1≠b):Inv X J0 σ H' s':=by
 have⟨h',g',d',t',o'⟩:=s';have e:o'=s.os:=W;subst e;exact I.call (g':=g') (t':=t') (d':=d') u U Y O
end
abbrev XK:=Value->ζ J4->Hp->Prop
abbrev St:=η (ζ V)
abbrev VK:=V->Hp->Prop
abbrev TE:=St->Hp->VK->Prop
abbrev TT:=St->Hp->(Bool->Hp->Prop)->Prop
abbrev TA:=St->Hp->(η V->Hp->Prop)->Prop
structure Ends where
 nx:St->Hp->Prop
 rt:VK
 bk:St->Hp->Prop:=λ_ _=>False
 ct:St->Hp->Prop:=λ_ _=>False
abbrev TS:=Ends->St->Hp->Prop
def EP(X:Cx)(J0:η (J4×Obj))(σ:St)(Q:VK)(u:Value)(s':qa7):Prop:=∃v H',Inv X J0 σ H' s'/\RelV v u/\Q v H'
def TP(X:Cx)(J0:η (J4×Obj))(σ:St)(Q:Bool->Hp->Prop)(b:Bool)(s':qa7):Prop:=∃H',Inv X J0 σ H' s'/\Q b H'
def AP(X:Cx)(J0:η (J4×Obj))(σ:St)(Q:η V->Hp->Prop)(us:η Value)(s':qa7):Prop:=∃vs H',Inv X J0 σ H' s'/\Vals vs us/\Q vs H'
omit x in
def SP(X:Cx)(J0:η (J4×Obj))(D:Ends)(f:Flow)(s':qa7):Prop:=
 match f with
 |.next=>∃O H',Inv X J0 O H' s'/\D.nx O H'
 |.brk=>∃O H',Inv X J0 O H' s'/\D.bk O H'
 |.cont=>∃O H',Inv X J0 O H' s'/\D.ct O H'
 |.ret u=>∃v O H',Inv X J0 O H' s'/\RelV v u/\D.rt v H'
def PE(X:Cx)(e:J8)(t:TE):Prop:=∀(J0:η (J4×Obj))(s:qa7)(σ:St)(H:Hp)(Q:VK),Inv X J0 σ H s->t σ H Q->wpAny (model X.prog X.w) X.A (eval e X.env) (EP X J0 σ Q) X.xe s
def PT(X:Cx)(e:J8)(t:TT):Prop:=∀(J0:η (J4×Obj))(s:qa7)(σ:St)(H:Hp)(Q:Bool->Hp->Prop),Inv X J0 σ H s->t σ H Q->wpAny (model X.prog X.w) X.A (isTrue e X.env (eval e X.env)) (TP X J0 σ Q) X.xe s
def PW(X:Cx)(e:J8)(t:TT):Prop:=∀(O:Sem Value)(J0:η (J4×Obj))(s:qa7)(σ:St)(H:Hp)(Q:Bool->Hp->Prop),Inv X J0 σ H s->t σ H Q->wpAny (model X.prog X.w) X.A (isTrue e X.env O) (TP X J0 σ Q) X.xe s
variable{X:Cx}{e:J8}
theorem PW.pt{t:TT}(h:PW X e t):PT X e t:=h _
def PA(X:Cx)(es:η J8)(t:TA):Prop:=∀(pos:Pos)(J0:η (J4×Obj))(s:qa7)(σ:St)(H:Hp)(Q:η V->Hp->Prop),Inv X J0 σ H s->t σ H Q->wpAny (model X.prog X.w) X.A (spliced (qi3 pos (qb3 es X.env))) (AP X J0 σ Q) X.xe s
def PS(X:Cx)(st:J6)(t:TS):Prop:=∀(J0:η (J4×Obj))(s:qa7)(σ:St)(H:Hp)(D:Ends),Inv X J0 σ H s->t D σ H->wpAny (model X.prog X.w) X.A (exec st X.env) (SP X J0 D) X.xe s
def PSs(X:Cx)(st:η J6)(t:TS):Prop:=∀(J0:η (J4×Obj))(s:qa7)(σ:St)(H:Hp)(D:Ends),Inv X J0 σ H s->t D σ H->wpAny (model X.prog X.w) X.A (execs st X.env) (SP X J0 D) X.xe s
theorem thn{α:Type}{t:Sem α}{Q Q':α->qa7->Prop}{E:Value->qa7->Prop}{s:qa7}(h:wpAny M A t Q E s)(O:∀a s,Q a s->Q' a s):wpAny M A t Q' E s:=qo0 h O λ_ _ x=>x
variable{pos:Pos}{J0:η (J4×Obj)}{σ:St}{Q:Value->qa7->Prop}
section
variable{X:Cx}
def qm(i:Nat):TE:=λσ H Q=>∃v,σ[i]?=ς (ς v)/\Q v H
def tC(v:V):TE:=λ_ H Q=>Q v H
theorem Aq{i:Nat}{x:Str}(hN:X.N[i]?=ς x)(Z:Vis X.env.scope x)(Y:(x==("__debug__":Str))=ξ:=by decide)(W:(x==("__classdict__":Str))=ξ:=by decide):PE X (.Name x pos) (qm i):=by
 intro J0 s σ H Q I h;have⟨v,e,h⟩:=h;have⟨m,hn,hl⟩:=I.loc;have⟨u,r,l⟩:=hl i x v hN e Z;have fin:EP X J0 σ Q u s:=⟨v,H,I,r,h⟩;rcases l with ⟨U,hm⟩|⟨U,c,hc,O⟩
 .exact wpAny_Name (wpAny_loadName_local I.ok.kind U hn hm fin) Y
 .rcases U with U|U
  .exact wpAny_Name (wpAny_loadName_cell I.ok.kind U hc O fin) Y
  .exact wpAny_Name (wpAny_loadName_free I.ok.kind U hc O fin W) Y
theorem Ar{i j pos}:PE X (.Constant (.int i) j pos) (tC (.int i)):=λ_ _ _ H _ I h=>wpAny_Constant_int ⟨.int i,H,I.tok _,⟨_,rfl⟩,h⟩
theorem DI{b j pos}:PE X (.Constant (.bool b) j pos) (tC (.bl b)):=λ_ _ _ H _ I h=>Constant_bool ⟨.bl b,H,I,rfl,h⟩
theorem As{j pos}:PE X (.Constant .none j pos) (tC .non):=λ_ _ _ H _ I h=>Constant_none ⟨.non,H,I,rfl,h⟩
theorem Au{x j pos}:PE X (.Constant (.str x) j pos) (tC (.str x)):=λ_ _ _ H _ I h=>Calls.Constant_str ⟨.str x,H,I.tok _,⟨_,rfl⟩,h⟩
def Gl(X:Cx)(x:Str):Prop:=X.env.kindOf x=ς .globalImplicit
theorem eh{E:Value->qa7->Prop}{s:qa7}{x:Str}(I:Inv X J0 σ H s)(U:Gl X x)(hm:X.mg x=ς u)(h:Q u s)
 (O:(x==("__debug__":Str))=ξ:=by decide):wpAny (model X.prog X.w) X.A (eval (.Name x pos) X.env) Q E s:=
 qw7 I.ok.kind U (Calls.loadGlobal_global (by rw[I.ok.glob];exact I.mod.glob.keeps I.bk) hm h) O
theorem gV{E:Value->qa7->Prop}{s:qa7}{x:Str}(I:Inv X J0 σ H s)(Y:Gl X x)(hm:X.mg x=ψ)(U:qg0 x=ς u)(h:Q u s)
 (O:x≠"__name__":=by decide) (W:(x==("__debug__":Str))=ξ:=by decide):wpAny (model X.prog X.w) X.A (eval (.Name x pos) X.env) Q E s:=by
 have⟨Z,h1,h2⟩:=I.mod.blt;exact qw7 I.ok.kind Y (Calls.loadGlobal_builtin (by rw[I.ok.glob];exact I.mod.glob.keeps I.bk) hm (by rw[I.ok.blt];exact h1.keeps I.bk) ((h2 x O).trans U) h) W
theorem wF{x:Str}{v:V}(U:Gl X x)(hm:X.mg x=ς u)(r:RelV v u)(O:(x==("__debug__":Str))=ξ:=by decide):PE X (.Name x pos) (tC v):=λ_ _ _ H _ I h=>eh I U hm ⟨v,H,I,r,h⟩ O
theorem wG{x:Str}{v:V}(W:Gl X x)(hm:X.mg x=ψ)(O:qg0 x=ς u)(r:RelV v u)(Y:x≠"__name__":=by decide)(U:(x==("__debug__":Str))=ξ:=by decide):PE X (.Name x pos) (tC v):=λ_ _ _ H _ I h=>gV I W hm O ⟨v,H,I,r,h⟩ Y U
variable{a b:J8}{ta tb:TE}{pos:Pos}
variable{tA tB':TT}{rest:η J8}
def tAnd(t u:TT):TT:=λσ H Q=>t σ H λc H1=>if c=θ then u σ H1 Q else Q ξ H1
def tOr(t u:TT):TT:=λσ H Q=>t σ H λc H1=>if c=θ then Q θ H1 else u σ H1 Q
def tNot(t:TT):TT:=λσ H Q=>t σ H λc H1=>Q (!c) H1
theorem wH(O:PT X a tA):PW X (.BoolOp .And [a] pos) tA:=by
 intro wh J0 s σ H Q I h;refine isTrue_and (thn (O J0 s σ H Q I h) λc s1 e=>?_);cases c with
 |true=>exact isTrue_and_nil e
 |false=>exact e
theorem Av(O:PT X a tA):PW X (.BoolOp .Or [a] pos) tA:=by
 intro wh J0 s σ H Q I h;refine isTrue_or (thn (O J0 s σ H Q I h) λc s1 e=>?_);cases c with
 |false=>exact isTrue_or_nil e
 |true=>exact e
theorem Aw(Y:PT X a tA)(hb:PW X (.BoolOp .And (b::rest) pos) tB'):PW X (.BoolOp .And (a::b::rest) pos) (tAnd tA tB'):=by
 intro wh J0 s σ H Q I h;refine isTrue_and (thn (Y J0 s σ H _ I h) λc s1 O=>?_);have⟨H1,U,W⟩:=O;cases c with
 |true=>exact hb wh J0 s1 σ H1 Q U W
 |false=>exact⟨H1,U,W⟩
theorem DJ(Y:PT X a tA)(hb:PW X (.BoolOp .Or (b::rest) pos) tB'):PW X (.BoolOp .Or (a::b::rest) pos) (tOr tA tB'):=by
 intro wh J0 s σ H Q I h;refine isTrue_or (thn (Y J0 s σ H _ I h) λc s1 O=>?_);have⟨H1,U,W⟩:=O;cases c with
 |true=>exact⟨H1,U,W⟩
 |false=>exact hb wh J0 s1 σ H1 Q U W
theorem Ax(O:PT X a tA):PT X (.UnaryOp .Not a pos) (tNot tA):=by intro J0 s σ H Q I h;exact isTrue_not (O J0 s σ H (λc H1=>Q (!c) H1) I h)
def DK(ta tb:TE):TE:=λσ H Q=>ta σ H λx H1=>∃c,x=.bl c/\if c=θ then tb σ H1 Q else Q (.bl ξ) H1
def DL(ta:TE):TE:=λσ H Q=>ta σ H λx H1=>∃c,x=.bl c/\Q (.bl (!c)) H1
theorem Ay{op}{t:TE}(h:PE X a t):PE X (.BoolOp op [a] pos) t:=λJ0 s σ H Q I O=>BoolOp_one (h J0 s σ H Q I O)
theorem Az(Y:PE X a ta)(hb:PE X (.BoolOp .And (b::rest) pos) tb):PE X (.BoolOp .And (a::b::rest) pos) (DK ta tb):=by
 intro J0 s σ H Q I h;refine BoolOp_and (thn (Y J0 s σ H _ I h) λv s1 O=>?_);have⟨x,H1,W,Z,U⟩:=O;have⟨c,rfl,U⟩:=U;cases Z;refine qp5 ?_;cases c with
 |true=>exact hb J0 s1 σ H1 Q W U
 |false=>exact⟨.bl ξ,H1,W,rfl,U⟩
theorem AA(W:PE X a ta):PE X (.UnaryOp .Not a pos) (DL ta):=by intro J0 s σ H Q I h;refine UnaryOp_ (thn (W J0 s σ H _ I h) λv s1 O=>?_);have⟨x,H1,Y,Z,U⟩:=O;have⟨c,rfl,U⟩:=U;cases Z;exact not_of (qp5 ⟨.bl (!c),H1,Y,rfl,U⟩)
def tIf(t:TT)(ta tb:TE):TE:=λσ H Q=>t σ H λc H1=>if c=θ then ta σ H1 Q else tb σ H1 Q
theorem sj{c:J8}(hc:PT X c tA)(Y:PE X a ta)(hb:PE X b tb):PE X (.IfExp c a b pos) (tIf tA ta tb):=by
 intro J0 s σ H Q I h;refine wpAny_IfExp (thn (hc J0 s σ H _ I h) λd s1 O=>?_);have⟨H1,U,W⟩:=O;cases d with
 |true=>exact Y J0 s1 σ H1 Q U W
 |false=>exact hb J0 s1 σ H1 Q U W
end
def SqL(K:xA9)(H:Hp)(a:J4)(xs:η V):Prop:=Rd H a (.e xs)\/∃(o:Obj)(J3:Array Value)(n:Nat),K.lookup a=ς o/\o.cls=.type "list"/\o.dict=ψ/\o.data=.seq J3 n/\J3.size<=qa5/\Vals xs J3.toList
def SqT(K:xA9)(H:Hp)(a:J4)(xs:η V):Prop:=H a=ς (.t xs)\/∃(o:Obj)(J3:Array Value)(n:Nat),K.lookup a=ς o/\o.cls=.type "tuple"/\(o.data=.seq J3 n/\o.dict=ψ)/\J3.size<=qa5/\Vals xs J3.toList
noncomputable def absV:Value->ζ V
 |.none=>ς .non
 |.bool b=>ς (.bl b)
 |.int i _=>ς (.int i)
 |.str x _=>ς (.str x)
 |.bytes b _=>ς (.byt b)
 |.float b _=>ς (.flt b)
 |.ref a=>ς (.ref a)
 |.type n=>ς (.ty n)
 |_=>ψ
theorem RelV.abs{x:V}(r:RelV x u):absV u=ς x:=by
 cases x with
 |non=>cases r;rfl
 |bl _=>cases r;rfl
 |int _=>have⟨t,rfl⟩:=r;rfl
 |str _=>have⟨t,rfl⟩:=r;rfl
 |byt _=>have⟨t,rfl⟩:=r;rfl
 |flt _=>have⟨t,rfl⟩:=r;rfl
 |ref _=>cases r;rfl
 |ty _=>cases r;rfl
variable{y:V}
theorem RelV.inj{x:V}(r:RelV x u)(q:RelV y u):x=y:=qd3 (r.abs.symm.trans q.abs)
theorem Vals.inj:∀{xs ys:η V}{us:η Value},Vals xs us->Vals ys us->xs=ys
 |_,_,_,.nil,.nil=>rfl
 |_,_,_,.cons r t,.cons O t'=>by rw[r.inj O,Vals.inj t t']
variable{K:xA9}
section
variable{X:Cx}{J0:η (J4×Obj)}{σ:St}{H:Hp}{s:qa7}{a:J4}{xs ys:η V}
theorem SqL.of(h:H a=ς (.e xs)):SqL K H a xs:=.inl (.inl h)
theorem SqT.of(h:H a=ς (.t xs)):SqT K H a xs:=.inl h
theorem Inv.list(I:Inv X J0 σ H s)(h:SqL X.K H a xs):∃J3:η Value,Vals xs J3/\PlainL s.heap a J3.toArray/\xs.length<=qa5:=by
 rcases h with h|⟨o,J3,n,W,hc,U,O,hz,r⟩
 .have⟨z,J3,n,r,e⟩:=h.ok I.hok;exact⟨J3,r,⟨_,n,e,rfl,rfl,rfl⟩,z⟩
 .refine⟨J3.toList,r,⟨o,n,I.kIn a o W,hc,U,‹O›⟩,?_⟩;have e:=r.length;rwa[qh5]at e;lia
theorem Inv.tup(I:Inv X J0 σ H s)(h:SqT X.K H a xs):∃J3:η Value,Vals xs J3/\IsTu s.heap a J3.toArray/\xs.length<=qa5:=by
 rcases h with h|⟨o,J3,n,U,hc,O,hz,r⟩
 .have⟨z,J3,r,p⟩:=(Rd.of h).ok I.hok;exact⟨J3,r,p,z⟩
 .refine⟨J3.toList,r,.of (n:=n) (I.kIn a o U) hc ‹O.1› O.2,?_⟩;have e:=r.length;rwa[qh5]at e;lia
theorem Inv.tuple(I:Inv X J0 σ H s)(h:SqT X.K H a xs):∃J3:η Value,Vals xs J3/\IsTup s.heap a J3.toArray/\xs.length<=qa5:=let ⟨J3,r,p,z⟩:=I.tup h;⟨J3,r,p.1,z⟩
theorem Inv.list_inj(I:Inv X J0 σ H s)(h:SqL X.K H a xs)(h':SqL X.K H a ys):xs=ys:=by
 have⟨J3,r,⟨o,n,e,_,_,d⟩,_⟩:=I.list h;have⟨its',U,⟨o',n',O,_,_,d'⟩,_⟩:=I.list h';rw[e]at O;cases O
 rw[d]at d';injection d' with d1 _;have:J3=its':=‹congrArg Array.toList d1›
 subst this;exact r.inj U
theorem Inv.tuple_inj(I:Inv X J0 σ H s)(h:SqT X.K H a xs)(h':SqT X.K H a ys):xs=ys:=by
 have⟨J3,r,⟨o,e,_,n,d⟩,_⟩:=I.tuple h;have⟨its',U,⟨o',O,_,n',d'⟩,_⟩:=I.tuple h';rw[e]at O;cases O
 rw[d]at d';injection d' with d1 _;have:J3=its':=‹congrArg Array.toList d1›
 subst this;exact r.inj U
end
noncomputable abbrev Cx.wish(X:Cx)(E:Value->qa7->Prop):Cx:={X with xe:=E}
abbrev Cx.nox(X:Cx):Cx:=X.wish λ_ _=>False
theorem Cx.Ok.wish(ok:X.Ok)(E:Value->qa7->Prop):(X.wish E).Ok:=⟨ok.mod,ok.kind,ok.glob,ok.blt,ok.above,ok.inj,ok.has,ok.cab,ok.hd,ok.frames,ok.stk,ok.exf,ok.bs,ok.bsz,ok.noex,ok.exfs,ok.funs,ok.frf,ok.tb⟩
theorem Cx.Ok.unwish{E:Value->qa7->Prop}(ok:(X.wish E).Ok):X.Ok:=⟨ok.mod,ok.kind,ok.glob,ok.blt,ok.above,ok.inj,ok.has,ok.cab,ok.hd,ok.frames,ok.stk,ok.exf,ok.bs,ok.bsz,ok.noex,ok.exfs,ok.funs,ok.frf,ok.tb⟩
section
variable{X:Cx}{J0:η (J4×Obj)}{σ:St}{H:Hp}{s:qa7}{E:Value->qa7->Prop}
theorem Inv.wish(I:Inv X J0 σ H s)(E:Value->qa7->Prop):Inv (X.wish E) J0 σ H s:=⟨I.ok.wish E,I.os,I.bare,I.base,I.loc,I.cell,I.free,I.freeC,I.pin,I.hok,I.len⟩
theorem Inv.unwish(I:Inv (X.wish E) J0 σ H s):Inv X J0 σ H s:=⟨I.ok.unwish,I.os,I.bare,I.base,I.loc,I.cell,I.free,I.freeC,I.pin,I.hok,I.len⟩
omit x in
theorem SP.unwish{D:Ends}{f:Flow}(h:SP (X.wish E) J0 D f s'):SP X J0 D f s':=by
 cases f with
 |next=>have⟨O,H',I,q⟩:=h;exact⟨O,H',I.unwish,q⟩
 |brk=>have⟨O,H',I,q⟩:=h;exact⟨O,H',I.unwish,q⟩
 |cont=>have⟨O,H',I,q⟩:=h;exact⟨O,H',I.unwish,q⟩
 |ret u=>have⟨v,O,H',I,r,q⟩:=h;exact⟨v,O,H',I.unwish,r,q⟩
theorem PSs.nox{st:η J6}{t:TS}(h:PSs X.nox st t):PSs X st t:=λJ0 s σ H D I O=>qo0 (h J0 s σ H D (I.wish _) O) (λ_ _ q=>q.unwish) λ_ _ z=>qk9 z
end
variable{tc:TT}
section
variable{X:Cx}{st:J6}{rest:η J6}{t u:TS}{e:J8}{te:TE}{pos:Pos}
def so:TS:=λD σ H=>D.nx σ H
def tSeq(t u:TS):TS:=λD σ H=>t {D with nx:=u D} σ H
theorem wI:PSs X [] so:=λ_ _ σ H _ I h=>zb6 ⟨σ,H,I,h⟩
omit x in
theorem sr(h1:PS X st t)(h2:PSs X rest u):PSs X (st::rest) (tSeq t u):=by
 intro J0 s σ H D I h;refine wpAny_execs_cons (thn (h1 J0 s σ H {D with nx:=u D} I h) λf s1 q=>?_);cases f with
 |next=>have⟨O,H',U,q⟩:=q;exact h2 J0 s1 O H' D U q
 |ret v=>exact q
 |brk=>exact q
 |cont=>exact q
theorem wJ:PS X (.Pass pos) so:=λ_ _ σ H _ I h=>wpAny_Pass ⟨σ,H,I,h⟩
theorem Inv.quiet{s:qa7}(I:Inv X J0 σ H s):interactive X.env=ξ:=by simp[interactive,I.ok.kind]
omit x in
theorem AB{x j pos pos'}:PS X (.Expr (.Constant (.str x) j pos) pos') so:=λ_ s σ H _ I h=>wpAny_Expr (Calls.Constant_str (show SP X _ _ .next {s with toks:=s.toks+1} from⟨σ,H,I.tok _,h⟩)) I.quiet
def DM(te:TE):TS:=λD σ H=>te σ H λ_ H1=>D.nx σ H1
theorem dq(he:PE X e te)(hs:qj6 e ψ pos.line X.env=pure ξ:=by rfl):PS X (.Expr e pos) (DM te):=by intro J0 s σ H D I h;exact wpAny_Expr_any (thn (he J0 s σ H _ I h) λv s1 O=>by have⟨x,H1,U,Y,W⟩:=O;exact⟨σ,H1,U,W⟩) I.quiet hs
def tRet(te:TE):TS:=λD σ H=>te σ H D.rt
theorem AC(he:PE X e te):PS X (.Return (ς e) pos) (tRet te):=by intro J0 s σ H D I h;exact wpAny_Return_some (thn (he J0 s σ H _ I h) λv s1 O=>by have⟨x,H1,U,W,Y⟩:=O;exact⟨x,σ,H1,U,W,Y⟩)
def DN:TS:=λD _ H=>D.rt .non H
theorem wK:PS X (.Return ψ pos) DN:=λ_ _ σ H _ I h=>wpAny_Return_none ⟨.non,σ,H,I,rfl,h⟩
def tIfS(c:TT)(t u:TS):TS:=λD σ H=>c σ H λb H1=>if b=θ then t D σ H1 else u D σ H1
theorem DO{c:J8}{a b:η J6}(hc:PT X c tc)(Y:PSs X a t)(hb:PSs X b u):PS X (.If c a b pos) (tIfS tc t u):=by
 intro J0 s σ H D I h;refine wpAny_If (thn (hc J0 s σ H _ I h) λd s1 O=>?_);have⟨H1,U,W⟩:=O;cases d with
 |true=>exact Y J0 s1 σ H1 D U W
 |false=>exact hb J0 s1 σ H1 D U W
end
abbrev TG:=V->St->Hp->(St->Hp->Prop)->Prop
abbrev TGs:=η V->St->Hp->(St->Hp->Prop)->Prop
def PG(X:Cx)(O:J8)(t:TG):Prop:=
 ∀(J0:η (J4×Obj))(s:qa7)(σ:St)(H:Hp)(v:V)(u:Value)(Q:St->Hp->Prop),Inv X J0 σ H s->RelV v u->t v σ H Q→
  wpAny (model X.prog X.w) X.A (za2 O X.env u) (λ_ s'=>∃U H',Inv X J0 U H' s'/\Q U H') X.xe s
def PGs(X:Cx)(ts:η J8)(t:TGs):Prop:=
 ∀(J0:η (J4×Obj))(s:qa7)(σ:St)(H:Hp)(vs:η V)(us:η Value)(Q:St->Hp->Prop),Inv X J0 σ H s->Vals vs us->t vs σ H Q→
  wpAny (model X.prog X.w) X.A (assignInOrder ((qi8 ts X.env).map (·.2)) us) (λ_ s'=>∃O H',Inv X J0 O H' s'/\Q O H') X.xe s
abbrev su:=V->V->V->Hp->(Hp->Prop)->Prop
def PSet(X:Cx)(t:su):Prop:=
 ∀(J0:η (J4×Obj))(s:qa7)(σ:St)(H:Hp)(o i v:V)(O iv u:Value)(Q:Hp->Prop),Inv X J0 σ H s->RelV o O->RelV i iv->RelV v u->t o i v H Q→
  wpAny (model X.prog X.w) X.A (setItem O iv u) (λ_ s'=>∃H',Inv X J0 σ H' s'/\Q H') X.xe s
abbrev TIp:=V->V->Hp->VK->Prop
def PIp(X:Cx)(op:qq2)(t:TIp):Prop:=
 ∀(J0:η (J4×Obj))(s:qa7)(σ:St)(H:Hp)(x y:V)(v u:Value)(Q:VK),Inv X J0 σ H s->RelV x v->RelV y u->t x y H Q→
  wpAny (model X.prog X.w) X.A (inplaceOp op v u) (EP X J0 σ Q) X.xe s
variable{es:η J8}{tg:J8}{te:TE}{pos':Pos}
section
variable{X:Cx}{pos:Pos}
def ei(i:Nat):TG:=λv σ H Q=>Q (σ.set i (ς v)) H
theorem ox{i:Nat}{x:Str}(Y:X.N.Nodup)(hi:X.N[i]?=ς x)(U:Loc X.env.scope x)(W:X.fn x=θ\/X.env.scope.names.lookup x=ς .local:=by first|exact .inl rfl|exact .inr rfl|assumption):PG X (.Name x pos) (ei i):=by intro J0 s σ H v u Q I r h;exact wpAny_assign_Name (dH I Y hi U r (λs' O=>⟨_,H,O,h⟩) W)
def gNil:TGs:=λvs σ H Q=>vs=[]/\Q σ H
def DP(t:TG)(u:TGs):TGs:=λvs σ H Q=>∃v r,vs=v::r/\t v σ H λO H'=>u r O H' Q
theorem wL:PGs X [] gNil:=by intro J0 s σ H vs us Q I r h;have⟨e,h⟩:=h;subst e;cases r;exact assignInOrder_nil ⟨σ,H,I,h⟩
theorem sw{t:TG}{u:TGs}(h1:PG X e t)(h2:PGs X es u)
 (hs:(qi8 (e::es) X.env).map (·.2)=za2 e X.env::(qi8 es X.env).map (·.2):=by rfl):PGs X (e::es) (DP t u):=by
 intro J0 s σ H vs us Q I r h;have⟨v,vr,e1,h⟩:=h;subst e1;cases r with
 |cons r W=>rw[hs];refine assignInOrder_cons (thn (h1 J0 s σ H _ _ _ I r h) λ_ s1 O=>?_);have⟨U,H1,Y,Z⟩:=O;exact h2 J0 s1 U H1 _ _ Q Y W Z
def gTup(K:xA9)(n:Nat)(t:TGs):TG:=λv σ H Q=>∃a xs,v=.ref a/\SqT K H a xs/\xs.length=n/\t xs σ H Q
theorem AD{k:Nat}{t:TGs}{n:Nat}(hc:X.calm=θ)(h:PGs X es t)
 (Z:(qi8 es X.env).length=n:=by rfl) (U:(qi8 es X.env).findIdx? (·.1)=ψ:=by rfl):PG X (.Tuple es k pos) (gTup X.K n t):=by
 intro J0 s σ H v u Q I r O;have⟨a,xs,e1,hq,hl,O⟩:=O;subst e1;cases r;have⟨J3,W,ht,hz⟩:=I.tuple hq;refine assign_Tuple_tuple (I.ok.hd hc) ht (by simp[Z,<- hl,W.length]) U λh' hx=>?_
 have Y:Inv X J0 σ H {s with heap:=h'}:=I.kept (t':=s.toks) λb o e=>hx b o (qc5 (qb2 e)) e
 exact h J0 _ σ H xs _ Q Y ‹W› O
def gSub(to U:TE)(t:su):TG:=λv σ H Q=>to σ H λo H1=>U σ H1 λi H2=>t o i v H2 λO=>Q σ O
theorem sx {o i:J8} {to Z:TE} {t:su} (ho:PE X o to) (hi:PE X i Z) (hs:PSet X t)
  (ha:∀v,za2 (.Subscript o i pos) X.env v=(do
   let O <- qo5 [v] (eval o X.env);let iv <- qo5 [v,O] (eval i X.env)
   qx8 pos
   qo5 [v,O,iv] (setItem O iv v)
   release [v,O,iv] []):=by intro _;rfl):PG X (.Subscript o i pos) (gSub to Z t):=by
 intro J0 s σ H v u Q I r h;rw[ha];refine wB (qj3 (thn (ho J0 s σ H _ I h) λO s1 U=>?_));have⟨x,H1,I1,r1,q1⟩:=U;refine wB (qj3 (thn (hi J0 s1 σ H1 _ I1 q1) λiv s2 Y=>?_));have⟨y,H2,I2,r2,q2⟩:=Y;refine wB (zd9 (wB (qj3 (thn (hs J0 s2 σ H2 x y v O iv u _ I2 r1 r2 r q2) λ_ s3 W=>?_))));have⟨H3,I3,q3⟩:=W;exact wpAny_release ⟨σ,H3,I3,q3⟩
def wM(te:TE)(g:TG):TS:=λD σ H=>te σ H λx H1=>g x σ H1 D.nx
theorem mJ{g:TG}(he:PE X e te)(W:PG X tg g)(hs:qv6 [tg] e pos.line X.env=pure ξ:=by rfl)(hw:ze0 [tg] e X.env=pure ψ:=by rfl)
 (h1:(qi8 [tg] X.env).map (·.2)=[za2 tg X.env]:=by rfl):PS X (.Assign [tg] e pos) (wM te g):=by
 intro J0 s σ H D I h;refine wpAny_Assign_stores (thn (he J0 s σ H _ I h) λv s1 O=>?_) hs hw;have⟨x,H1,U,Y,Z⟩:=O;rw[h1];exact thn (W J0 s1 σ H1 x v _ U Y Z) λ_ s2 q=>q
theorem AE {i:Nat} {x:Str} (hN:X.N.Nodup) (hi:X.N[i]?=ς x) (Y:Loc X.env.scope x) (he:PE X e te) (hs:qj6 e (ς (.Name x pos')) pos.line X.env=pure ξ:=by rfl) (Z:X.fn x=θ\/X.env.scope.names.lookup x=ς .local:=by first | exact .inl rfl | exact .inr rfl | assumption) :
  PS X (.Assign [.Name x pos'] e pos) (wM te (ei i)):=by
 intro J0 s σ H D I h;refine wpAny_Assign_Name (thn (he J0 s σ H _ I h) λv s1 O=>?_) hs;have⟨y,H1,U,W,q1⟩:=O;exact dH U hN hi Y W (λs2 I2=>⟨_,H1,I2,q1⟩) Z
def tAug(i:Nat)(te:TE)(O:TIp):TS:=λD σ H=>∃x,σ[i]?=ς (ς x)/\te σ H λy H1=>O x y H1 λz H2=>D.nx (σ.set i (ς z)) H2
omit x in
theorem AF {i:Nat} {x:Str} {op:qq2} {ti:TIp} (hN:X.N.Nodup) (hi:X.N[i]?=ς x) (hx:Loc X.env.scope x) (he:PE X e te) (ho:PIp X op ti) (hf:X.fn x=θ\/X.env.scope.names.lookup x=ς .local:=by first | exact .inl rfl | exact .inr rfl | assumption) :
  PS X (.AugAssign (.Name x pos') op e pos) (tAug i te ti):=by
 intro J0 s σ H D I h;have⟨v,e1,h⟩:=h;have⟨m,hn,hl⟩:=I.loc;have vis:Vis X.env.scope x:=by rcases hx with k|k;exact .inl k;exact .inr (.inl k)
 have⟨u,r,l⟩:=hl i x v hi e1 vis;refine wpAny_AugAssign_Name ?_
 have go:wpAny (model X.prog X.w) X.A (eval e X.env) (λw W=>wpAny (model X.prog X.w) X.A (inplaceOp op u w) (λr s₃=>wpAny (model X.prog X.w) X.A (storeName X.env x r) (λ_=>SP X J0 D .next) X.xe s₃) X.xe W) X.xe s:=by
  refine thn (he J0 s σ H _ I h) λw s1 Z=>?_
  have⟨y,H1,I1,r1,q1⟩:=Z;refine thn (ho J0 s1 σ H1 v y u w _ I1 r r1 q1) λz s2 Y=>?_
  have⟨zv,H2,I2,r2,q2⟩:=Y;exact dH I2 hN hi hx r2 (λs3 I3=>⟨_,H2,I3,q2⟩) hf
 rcases l with ⟨O,hm⟩|⟨O,c,hc,U⟩
 .exact wpAny_loadName_local I.ok.kind O hn hm go
 .rcases O with O|O
  .exact wpAny_loadName_cell I.ok.kind O hc U go
  .rcases hx with k|k
   .have:X.env.scope.names.lookup x=ς .free:=O;rw[k]at this;cases this
   .have:X.env.scope.names.lookup x=ς .free:=O;rw[k]at this;cases this
def ipI(f:Int->Int->Int):TIp:=λx y H Q=>∃i j,x=.int i/\y=.int j/\Q (.int (f i j)) H
theorem AG:PIp X .Add (ipI λi j=>i+j):=by intro J0 s σ H x y v u Q I O U h;have⟨i,j,W,e2,q⟩:=h;subst W;subst e2;have⟨t,rfl⟩:=O;have⟨t',rfl⟩:=U;exact iadd_int ⟨.int _,H,I.tok _,⟨_,rfl⟩,q⟩
end
variable{body:η J6}{tb:TS}
section
variable{X:Cx}{pos:Pos}
def AH(c:TT)(tb:TS):TS:=λD σ H=>∃W:Nat->St->Hp->Prop,(∃m,W m σ H)/\∀m σ H,W m σ H→
 c σ H λb H1=>if b=θ then ∃N:St->Hp->Prop,(∀O H',N O H'->∃U,U<m/\W U O H')/\tb {D with nx:=N,ct:=N,bk:=D.nx} σ H1 else D.nx σ H1
omit x in
theorem sC{c:J8}(hp:zb7 (model X.prog X.w) X.A X.env X.xe)(hc:PT X c tc)(hb:PSs X body tb):PS X (.While c body [] pos) (AH tc tb):=by
 intro J0 s σ H D I h;have⟨W,⟨m0,w0⟩,turn⟩:=h;refine wpAny_While (codeAny_whileLoop (λn s'=>∃Y H',Inv X J0 Y H' s'/\W n Y H') ?_ m0 ⟨σ,H,I,w0⟩);rintro n s1 ⟨U,H1,I1,w1⟩;refine qn2 hp (thn (hc J0 s1 U H1 _ I1 (turn n U H1 w1)) λb s2 Z=>?_);have⟨H2,I2,q2⟩:=Z;cases b with
 |true=>
  have⟨N,hN,q2⟩:=q2;rw[if_pos rfl];refine qn2 hp (thn (hb J0 s2 U H2 _ I2 q2) λf s3 q3=>?_);cases f with
  |next=>have⟨O,H3,I3,n3⟩:=q3;have⟨m',hm,w3⟩:=hN O H3 n3;exact⟨m',hm,O,H3,I3,w3⟩
  |cont=>have⟨O,H3,I3,n3⟩:=q3;have⟨m',hm,w3⟩:=hN O H3 n3;exact⟨m',hm,O,H3,I3,w3⟩
  |brk=>exact q3
  |ret v=>exact q3
 |false=>rw[if_neg qb7];exact zb6 ⟨U,H2,I2,q2⟩
end
structure It where
 go:Nat->Hp->Prop
 yld:Nat->Hp->V->Hp->Prop
 stop:Nat->Hp->Prop
def dI(X:Cx)(J0:η (J4×Obj))(H:Hp)(b:J4):Prop:=H b=ψ/\b≠X.env.locals/\b∉X.fs/\(b∈X.ex\/X.s₀.heap.objs.size<=b)/\(∀x c,X.env.cells.lookup x=ς c->c≠b)/\∀p∈X.pn++J0,p.1≠b
theorem Inv.fpOk{H':Hp}{s:qa7}{b:J4}(I:Inv X J0 σ H s)(hb:s.heap.objs.size<=b)(O:H' b=ψ):dI X J0 H' b:=by
 refine⟨O,qj7 (qc9 I.lt hb),I.nofs hb,.inr (qd7 I.sz hb),λx c e z=>?_,λp hp z=>?_⟩
 .have⟨v,q⟩:=I.cell x c e;exact absurd (qc9 q.lt (by rw[z];exact hb)) (qn6 _)
 .exact absurd (qc9 (qb2 (I.pin p hp).1) (by rw[z];exact hb)) (qn6 _)
structure Turn(P:qe3)(w:J5)(K:xA9)(tg:J8)(J:It)(fp:List J4)(it:J4)(tn:Nat->Heap->Prop):Prop where
 mem:it∈fp
 obj:∀i h,tn i h->∀b∈fp,∃o,h.get? b=ς o/\∀v,o.data≠.cell v
 keep:∀i h h',tn i h->(∀b∈fp,∀o,h.get? b=ς o->h'.get? b=ς o)->tn i h'
 item:∀(X:Cx),X.prog=P->X.w=w->X.K=K->X.calm=θ->∀(i:Nat)(J0:List (J4×Obj))(s:qa7)(σ:St)(H:Hp)(E:Value->qa7->Prop),Inv X J0 σ H s->(∀b∈fp,dI X J0 H b)->tn i s.heap->J.go i H→
  wpAny (model P w) X.A (za3 (.ref it)) (λr s1=>∃u,r=ς u∧wpAny (model P w) X.A (qw1 tg (.ref it) u) (λ_ s2=>∃x H',Inv X J0 σ H' s2/\RelV x u/\J.yld i H x H'/\tn (i+1) s2.heap/\∀b∈fp,H' b=ψ) E s1) E s
 done:∀(X:Cx),X.prog=P->X.w=w->X.K=K->X.calm=θ->∀(i:Nat)(J0:List (J4×Obj))(s:qa7)(σ:St)(H:Hp)(E:Value->qa7->Prop),Inv X J0 σ H s->(∀b∈fp,dI X J0 H b)->tn i s.heap->J.stop i H→
  wpAny (model P w) X.A (za3 (.ref it)) (λr s1=>r=ψ/\Inv X J0 σ H s1) E s
 self:∀(A:qk4)(i:Nat)(s:qa7)(Q E:Value->qa7->Prop),tn i s.heap->Q (.ref it) s->wpAny (model P w) A (pyIter (.ref it)) Q E s
abbrev TI:=St->Hp->(It->Hp->Prop)->Prop
def PIE(X:Cx)(J0:η (J4×Obj))(σ:St)(tg:J8)(R:It->Hp->Prop)(O:Value)(U:qa7):Prop:=∃(it:J4)(fp:η J4)(tn:Nat->Heap->Prop)(J:It)(H':Hp),O=.ref it/\Inv X J0 σ H' U/\Turn X.prog X.w X.K tg J fp it tn/\tn 0 U.heap/\(∀b∈fp,dI X J0 H' b)/\R J H'
def PI(X:Cx)(tg iter:J8)(wi:TI):Prop:=
 ∀(J0:η (J4×Obj))(s:qa7)(σ:St)(H:Hp)(R:It->Hp->Prop),Inv X J0 σ H s->wi σ H R→
  wpAny (model X.prog X.w) X.A (eval iter X.env) (λv s1=>wpAny (model X.prog X.w) X.A (pyIter v) (PIE X J0 σ tg R) X.xe s1) X.xe s
theorem sD{E:Value->qa7->Prop}{s:qa7}{it:J4}{o:Obj}{n:String}{vs:Array Value}{Q:Unit->qa7->Prop}(U:s.heap.get? it=ς o)(hc:o.cls=.type n)(W:o.data=.fields vs)
 (Y:["enumerate","zip","dict_itemiterator","dict_reverseitemiterator","odict_iterator","itertools.zip_longest","itertools.pairwise"].contains n=ξ) (O:Q () s):wpAny M A (qw1 tg (.ref it) u) Q E s:=by
 unfold qw1
 cases tg<;>first
  |exact qa2 O
  | (cases u<;>first
      |exact qa2 O
      | (refine wB (wpAny_load U ?_)
         rw[hc,W];show wpAny M A (if(["enumerate","zip","dict_itemiterator","dict_reverseitemiterator","odict_iterator","itertools.zip_longest","itertools.pairwise"].contains n&&vs[0]?==ς (qv3 _))=θ then _ else _) Q E s;rw[if_neg (by intro h;rw[Y,Bool.false_and]at h;cases h)];exact qa2 O))
noncomputable def Itl(K:xA9)(a:J4):It:=⟨λi H=>∃xs x,SqL K H a xs/\xs[i]?=ς x,λi H x H'=>H'=H/\∀xs,SqL K H a xs->xs[i]?=ς x,λi H=>∃xs,SqL K H a xs/\xs.length<=i⟩
noncomputable def Itt(K:xA9)(a:J4):It:=⟨λi H=>∃xs x,SqT K H a xs/\xs[i]?=ς x,λi H x H'=>H'=H/\∀xs,SqT K H a xs->xs[i]?=ς x,λi H=>∃xs,SqT K H a xs/\xs.length<=i⟩
noncomputable def Itr(lo:Int)(n:Nat):It:=⟨λi _=>i<n,λi H x H'=>H'=H/\x=.int (lo+i),λi _=>n<=i⟩
theorem qo{w:J5}(a it:J4):Turn P w K tg (Itl K a) [it] it (λi h=>h.IsListIter it a i) where
 mem:=by simp
 obj:=λi h st b hb=>by
  have e:b=it:=‹hb›
  subst e;have⟨o,e,c,d⟩:=st;exact⟨o,e,λv z=>by rw[d]at z;cases z⟩
 keep:=λi h h' st k=>st.at λo e=>k it Ξ o e
 item:=by
  intro X hP hw hK hc i J0 s σ H E I U st Z;subst hP hw hK;have⟨xs,x,W,hx⟩:=Z;have⟨J3,rv,p,hz⟩:=I.list W;have⟨u,hu,ru⟩:=rv.get hx;have⟨f0,f1,f2,Y,f4,f5⟩:=U it Ξ;refine za8 st p.isList (x:=u) ‹hu› λh' O sb=>?_
  have I1:Inv X J0 σ H {s with heap:=h'}:=I.turned (t':=s.toks) (λb o hb e=>(sb.2 b hb).trans e) f0 f1 Y f4 f5;have⟨o,e,c,d⟩:=id O;exact⟨u,rfl,sD (s:={s with heap:=h'}) e c d Ω ⟨x,H,I1,ru,⟨rfl,λys hy=>by rw[I.list_inj hy W];exact hx⟩,O,λb hb=>(U b hb).1⟩⟩
 done:=by intro X hP hw hK hc i J0 s σ H E I U st Z;subst hP hw hK;have⟨xs,W,hx⟩:=Z;have⟨J3,rv,p,hz⟩:=I.list W;have⟨f0,f1,f2,Y,f4,f5⟩:=U it Ξ;have hl:=rv.length;exact zb8 (I.ok.hd hc) st p.isList (by simp;lia) λh' eb=>⟨rfl,I.turned (t':=s.toks) (λb o hb e=>eb b o hb e) f0 f1 Y f4 f5⟩
 self:=λ_ _ _ _ _ st h=>wpAny_pyIter_listiter st h
theorem mK{w:J5}(a it:J4):Turn P w K tg (Itt K a) [it] it (λi h=>h.IsTupleIter it a i) where
 mem:=by simp
 obj:=λi h st b hb=>by
  have e:b=it:=‹hb›
  subst e;have⟨o,e,c,d⟩:=st;exact⟨o,e,λv z=>by rw[d]at z;cases z⟩
 keep:=λi h h' st k=>st.at λo e=>k it Ξ o e
 item:=by
  intro X hP hw hK hc i J0 s σ H E I U st Z;subst hP hw hK;have⟨xs,x,W,hx⟩:=Z;have⟨J3,rv,p,hz⟩:=I.tuple W;have⟨u,hu,ru⟩:=rv.get hx;have⟨f0,f1,f2,Y,f4,f5⟩:=U it Ξ;refine qz4 st (show s.heap.IsTuple a J3.toArray from p) (x:=u) ‹hu› λh' O sb=>?_
  have I1:Inv X J0 σ H {s with heap:=h'}:=I.turned (t':=s.toks) (λb o hb e=>(sb.2 b hb).trans e) f0 f1 Y f4 f5;have⟨o,e,c,d⟩:=id O;exact⟨u,rfl,sD (s:={s with heap:=h'}) e c d Ω ⟨x,H,I1,ru,⟨rfl,λys hy=>by rw[I.tuple_inj hy W];exact hx⟩,O,λb hb=>(U b hb).1⟩⟩
 done:=by intro X hP hw hK hc i J0 s σ H E I U st Z;subst hP hw hK;have⟨xs,W,hx⟩:=Z;have⟨J3,rv,p,hz⟩:=I.tuple W;have⟨f0,f1,f2,Y,f4,f5⟩:=U it Ξ;have hl:=rv.length;exact za9 (I.ok.hd hc) st (show s.heap.IsTuple a J3.toArray from p) (by simp;lia) λh' eb=>⟨rfl,I.turned (t':=s.toks) (λb o hb e=>eb b o hb e) f0 f1 Y f4 f5⟩
 self:=λ_ _ _ _ _ st h=>wpAny_pyIter_tupleiter st h
theorem mL{w:J5}(it:J4)(lo:Int)(n:Nat):Turn P w K tg (Itr lo n) [it] it (λi h=>IsRangeIter h it (lo+(i:Nat)*1) ((n:Int)-(i:Nat)) 1) where
 mem:=by simp
 obj:=λi h st b hb=>by
  have e:b=it:=‹hb›
  subst e
  exact⟨_,st,λv z=>by have z':Data.fields _=Data.cell v:=z;cases z'⟩
 keep:=λi h h' st k=>k it Ξ _ st
 item:=by
  intro X hP hw hK hc i J0 s σ H E I U st Z;subst hP hw hK;have⟨f0,f1,f2,Y,f4,f5⟩:=U it Ξ;have W:=Walks.range (prog:=X.prog) (w:=X.w) (I.ok.hd hc) it lo 1 n;refine W.item i s _ _ Z st λv h' tk hv O kk=>?_
  have⟨t,rfl⟩:=hv;have I1:Inv X J0 σ H {s with heap:=h',toks:=tk}:=I.turned (λb o hb e=>kk b o ‹hb› e) f0 f1 Y f4 f5;refine⟨_,rfl,sD (s:={s with heap:=h',toks:=tk}) (n:="range_iterator") O rfl rfl Ω ⟨.int (lo+i),H,I1,⟨t,?_⟩,⟨rfl,rfl⟩,O,λb hb=>(U b hb).1⟩⟩;rw[Int.mul_one]
 done:=by intro X hP hw hK hc i J0 s σ H E I U st Z;subst hP hw hK;have⟨f0,f1,f2,Y,f4,f5⟩:=U it Ξ;exact wpAny_pyNext_range_end (I.ok.hd hc) st (by have:n<=i:=Z;lia) λh' eb=>⟨rfl,I.turned (t':=s.toks) (λb o hb e=>eb b o hb e) f0 f1 Y f4 f5⟩
 self:=λ_ _ _ _ _ st h=>wpAny_pyIter_rangeiter st h
variable{l:J8}{tl:TE}{fp:η J4}
section
variable{X:Cx}{tg:J8}
def DQ(K:xA9)(tl:TE):TI:=λσ H R=>tl σ H λx H1=>∃a,x=.ref a/\(∃xs,SqL K H1 a xs)/\R (Itl K a) H1
def iTup(K:xA9)(tl:TE):TI:=λσ H R=>tl σ H λx H1=>∃a,x=.ref a/\(∃xs,SqT K H1 a xs)/\R (Itt K a) H1
theorem wN(hl:PE X l tl):PI X tg l (DQ X.K tl):=by
 intro J0 s σ H R I h;refine thn (hl J0 s σ H _ I h) λv s1 O=>?_
 have⟨x,H1,U,W,Z⟩:=O;have⟨a,e,⟨xs,Y⟩,q⟩:=Z;subst e;cases W;have⟨J3,rv,p,hz⟩:=U.list Y;refine wpAny_pyIter_list p.isList ?_;refine⟨s1.heap.objs.size,[s1.heap.objs.size],_,_,H1,rfl,U.kept (t':=s1.toks) λb o e=>gP _ e,qo a _,⟨_,qc2 _ rfl,rfl,rfl⟩,λb hb=>?_,q⟩;have e:b=s1.heap.objs.size:=‹hb›
 subst e;exact U.fpOk (nL _) (U.hok.fresh (nL _))
theorem AI(hl:PE X l tl):PI X tg l (iTup X.K tl):=by
 intro J0 s σ H R I h;refine thn (hl J0 s σ H _ I h) λv s1 O=>?_
 have⟨x,H1,U,W,Z⟩:=O;have⟨a,e,⟨xs,Y⟩,q⟩:=Z;subst e;cases W;have⟨J3,rv,p,hz⟩:=U.tuple Y;refine qs3 (show s1.heap.IsTuple a J3.toArray from p) ?_;refine⟨s1.heap.objs.size,[s1.heap.objs.size],_,_,H1,rfl,U.kept (t':=s1.toks) λb o e=>gP _ e,mK a _,⟨_,qc2 _ rfl,rfl,rfl⟩,λb hb=>?_,q⟩;have e:b=s1.heap.objs.size:=‹hb›
 subst e;exact U.fpOk (nL _) (U.hok.fresh (nL _))
theorem sF{s:qa7}{R:It->Hp->Prop}{E:Value->qa7->Prop}{lo hi:Int}{t u v:Tok}{O:Nat}(I:Inv X J0 σ H s)(h1:-(2^62)<=lo)(h2:lo<2^62)(W:-(2^62)<=hi)(h4:hi<2^62)
 (q:R (Itr lo (hi-lo).toNat) H):wpAny (model X.prog X.w) X.A (pyIter (.ref s.heap.objs.size)) (PIE X J0 σ tg R) E {s with heap:=s.heap.push {cls:=.type "range",data:=.fields #[.int lo t,.int hi u,.int 1 v]},toks:=O}:=by
 refine wpAny_pyIter_range (IsRange.new ..) (small_one h1 h2 W h4) ?_;have U:Inv X J0 σ H {s with heap:=s.heap.push {cls:=.type "range",data:=.fields #[.int lo t,.int hi u,.int 1 v]},toks:=O}:=I.kept λb o e=>gP _ e
 refine⟨(s.heap.push {cls:=.type "range",data:=.fields #[.int lo t,.int hi u,.int 1 v]}).objs.size,[(s.heap.push {cls:=.type "range",data:=.fields #[.int lo t,.int hi u,.int 1 v]}).objs.size],_,_,H,rfl,U.kept (t':=O) λb o e=>gP _ e,mL _ lo (hi-lo).toNat,?_,λb hb=>?_,q⟩
 .have Y:lo+((0:Nat):Int)*1=lo:=by simp
  have e2:(((hi-lo).toNat:Nat):Int)-((0:Nat):Int)=qj8.Range.rangeSize lo hi 1:=by rw[rangeSize_one];split<;>lia
  show IsRangeIter _ _ (lo+((0:Nat):Int)*1) ((((hi-lo).toNat:Nat):Int)-((0:Nat):Int)) 1;rw[Y,e2];exact qc2 _ rfl
 .have e:b=(s.heap.push {cls:=.type "range",data:=.fields #[.int lo t,.int hi u,.int 1 v]}).objs.size:=‹hb›
  subst e;exact U.fpOk (nL _) (U.hok.fresh (nL _))
def zr(ta:TA):TI:=λσ H R=>ta σ H λvs H1=>∃j:Int,vs=[.int j]/\-(2^62)<=j/\j<2^62/\R (Itr 0 j.toNat) H1
theorem qp{a:J8}{ta:TA}{p:Pos}(hg:Gl X "range")(hm:X.mg "range"=ψ)(W:PA X [a] ta)(hs:qb3 [a] X.env=[(ξ,eval a X.env)]:=by rfl):PI X tg (.Call (.Name "range" p) [a] [] pos) (zr ta):=by
 intro J0 s σ H R I h;refine Call_ (gV I hg hm boot_range (qo6 (thn (W pos J0 s σ H _ I h) λus s1 O=>?_) hs rfl));have⟨vs,H1,Z,r1,U⟩:=O;have⟨j,e,U,q2,q⟩:=U;subst e;cases r1 with
 |cons r Y=>cases Y;have⟨t,rfl⟩:=r;exact call_range_1 (sF Z Θ Θ U q2 ‹q›)
def tFor(wi:TI)(g:TG)(tb:TS):TS:=λD σ H=>wi σ H λJ H1=>∃W:Nat->Nat->St->Hp->Prop,(∃m,W 0 m σ H1)/\∀i m σ H,W i m σ H→ (J.stop i H/\D.nx σ H)\/(J.go i H/\∃N:St->Hp->Prop,(∀O H',N O H'->∃Y,Y<m/\W (i+1) Y O H')/\∀x H',J.yld i H x H'->g x σ H' λU H2=>tb {D with nx:=N,ct:=N,bk:=D.nx} U H2)
noncomputable def fF(fp:η J4)(h:Heap):η (J4×Obj):=fp.filterMap λb=>(h.get? b).map λo=>(b,o)
theorem cj{h:Heap}{b:J4}{o:Obj}(hb:b∈fp)(e:h.get? b=ς o):(b,o)∈fF fp h:=qx0.mpr ⟨b,hb,by rw[e];rfl⟩
theorem qr{h:Heap}{p:J4×Obj}(hp:p∈fF fp h):p.1∈fp/\h.get? p.1=ς p.2:=by
 have⟨b,hb,e⟩:=qx0.mp hp;cases q:h.get? b with
 |none=>rw[q]at e;cases e
 |some o=>rw[q]at e;have O:(b,o)=p:=qd3 e;subst O;exact⟨hb,q⟩
theorem Inv.pinned{s:qa7}(I:Inv X J0 σ H s)(W:∀b∈fp,dI X J0 H b)(Y:∀b∈fp,∃o,s.heap.get? b=ς o/\∀v,o.data≠.cell v):Inv X (J0++fF fp s.heap) σ H s:=
 I.pins_of λp hp=>(qh1.mp hp).elim (λz=>I.pin p (qe4 _ z)) λz=>by
  have⟨hb,e⟩:=qr z;have⟨f0,U,Z,_⟩:=W p.1 hb;have⟨o,O,d⟩:=Y p.1 hb;rw[e]at O;cases O
  exact⟨e,f0,U,Z,d⟩
theorem Inv.unpinned{pl:η (J4×Obj)}{s:qa7}(I:Inv X (J0++pl) σ H s):Inv X J0 σ H s:=I.pins_of λp hp=>I.pin p (qe4 _ (List.mem_append_left _ hp))
omit x in
theorem AJ{iter:J8}{wi:TI}{g:TG}(hp:zb7 (model X.prog X.w) X.A X.env X.xe)(hc:X.calm=θ)(hi:PI X tg iter wi)(hg:PG X tg g)(hb:PSs X body tb)
 (hs:∀x,qh6 iter X.env x=pure x:=by intro _;rfl):PS X (.For tg iter body [] pos) (tFor wi g tb):=by
 intro J0 s σ H D I h;refine wpAny_For (thn (hi J0 s σ H _ I h) λv s1 h1=>thn h1 λitv s2 h2=>?_) hs;have⟨it,fp,tn,J,H2,e,I2,T,st2,f2,W,⟨m0,w0⟩,turn⟩:=h2;subst e
 -- what stays θ of the iterator's objects through the loop
 have Y:∀{H':Hp},(∀b∈fp,H' b=ψ)->∀b∈fp,dI X J0 H' b:=λhn b hb=>⟨hn b hb,(f2 b hb).2⟩
 refine codeAny_forLoop_any (λn s'=>∃i σ' H',Inv X J0 σ' H' s'/\tn i s'.heap/\(∀b∈fp,H' b=ψ)/\W i n σ' H') ?_ m0 ⟨0,σ,H2,I2,st2,λb hb=>(f2 b hb).1,w0⟩;rintro n s3 ⟨i,Z,H3,I3,st3,fr3,w3⟩;rcases turn i n Z H3 w3 with ⟨stop,qn⟩|⟨go,N,hN,step⟩
 .refine qn2 hp (thn (T.done X rfl rfl rfl hc i J0 s3 Z H3 X.xe I3 (Y fr3) st3 stop) λr s4 hq39=>?_);have⟨hr,I4⟩:=hq39;subst hr;exact zb6 ⟨Z,H3,I4,qn⟩
 .refine qn2 hp (thn (T.item X rfl rfl rfl hc i J0 s3 Z H3 X.xe I3 (Y fr3) st3 go) λr s4 ⟨u,hr,h4⟩=>?_);subst hr;refine qn2 hp (thn h4 λ_ s5 hq41=>?_);have⟨x,H5,I5,r5,y5,st5,fr5⟩:=hq41;have I5':=I5.pinned (Y fr5) (T.obj _ _ st5);refine qn2 hp (thn (hg _ s5 Z H5 x u _ I5' r5 (step x H5 y5)) λ_ s6 hq42=>?_);have⟨σ6,H6,I6,q6⟩:=hq42;refine qn2 hp (thn (hb _ s6 σ6 H6 _ I6 q6) λf s7 q7=>?_)
  have again:∀{O:St}{H7:Hp},Inv X (J0++fF fp s5.heap) O H7 s7->N O H7->∃m,m<n/\∃i σ' H',Inv X J0 σ' H' s7/\tn i s7.heap/\(∀b∈fp,H' b=ψ)/\W i m σ' H':=λ{O H7} U n7=>by have⟨m',hm,w7⟩:=hN O H7 n7;refine⟨m',hm,i+1,O,H7,U.unpinned,T.keep _ _ _ st5 λb hb o e=>(U.pin (b,o) (qe4 _ (qe4 _ (cj hb e)))).1,λb hb=>?_,w7⟩;have⟨o,e,d⟩:=T.obj _ _ st5 b hb;exact(U.pin (b,o) (qe4 _ (qe4 _ (cj hb e)))).2.1
  cases f with
  |next=>have⟨O,H7,U,n7⟩:=q7;exact again U n7
  |cont=>have⟨O,H7,U,n7⟩:=q7;exact again U n7
  |brk=>have⟨O,H7,U,q7⟩:=q7;exact⟨O,H7,U.unpinned,q7⟩
  |ret v=>have⟨x7,O,H7,U,r7,q7⟩:=q7;exact⟨x7,O,H7,U.unpinned,r7,q7⟩
end
abbrev R2:=V->V->Hp->VK->Prop
def OpR(X:Cx)(f:Value->Value->Sem Value)(r:R2):Prop:=
 ∀(J0:η (J4×Obj))(s:qa7)(σ:St)(H:Hp)(x y:V)(v u:Value)(Q:VK),Inv X J0 σ H s->RelV x v->RelV y u->r x y H Q→
  wpAny (model X.prog X.w) X.A (f v u) (EP X J0 σ Q) X.xe s
def UnR(X:Cx)(f:Value->Sem Value)(r:V->Hp->VK->Prop):Prop:=
 ∀(J0:η (J4×Obj))(s:qa7)(σ:St)(H:Hp)(x:V)(v:Value)(Q:VK),Inv X J0 σ H s->RelV x v->r x H Q→
  wpAny (model X.prog X.w) X.A (f v) (EP X J0 σ Q) X.xe s
def CallR(X:Cx)(f:Value)(r:η V->Hp->VK->Prop):Prop:=
 ∀(J0:η (J4×Obj))(s:qa7)(σ:St)(H:Hp)(xs:η V)(us:η Value)(Q:VK),Inv X J0 σ H s->Vals xs us->r xs H Q→
  wpAny (model X.prog X.w) X.A (call f us) (EP X J0 σ Q) X.xe s
def TruR(X:Cx)(r:V->Hp->(Bool->Hp->Prop)->Prop):Prop:=
 ∀(J0:η (J4×Obj))(s:qa7)(σ:St)(H:Hp)(x:V)(v:Value)(Q:Bool->Hp->Prop),Inv X J0 σ H s->RelV x v->r x H Q→
  wpAny (model X.prog X.w) X.A (truthy v) (TP X J0 σ Q) X.xe s
def tOp(r:R2)(ta tb:TE):TE:=λσ H Q=>ta σ H λx H1=>tb σ H1 λy H2=>r x y H2 Q
def tUn(r:V->Hp->VK->Prop)(ta:TE):TE:=λσ H Q=>ta σ H λx H1=>r x H1 Q
def gW(C:Int->Int->Prop)(g:Int->Int->V):R2:=λx y H Q=>∃i j,x=.int i/\y=.int j/\C i j/\Q (g i j) H
def rI0(g:Int->Int->V):R2:=λx y H Q=>∃i j,x=.int i/\y=.int j/\Q (g i j) H
def rU(g:Int->V):V->Hp->VK->Prop:=λx H Q=>∃i,x=.int i/\Q (g i) H
variable{r:R2}
section
variable{X:Cx}{a b c:J8}{ta tb tc:TE}{pos:Pos}
theorem AK(ha:PE X a ta)(hb:PE X b tb){s:qa7}{R:V->V->Hp->Prop}(I:Inv X J0 σ H s)
 (h:ta σ H λx H1=>tb σ H1 λy H2=>R x y H2) {f:Value->Value->Sem Value}
 (hf:∀v u Z x y H2,Inv X J0 σ H2 Z->RelV x v->RelV y u->R x y H2->wpAny (model X.prog X.w) X.A (f v u) Q X.xe Z) :
  wpAny (model X.prog X.w) X.A (eval a X.env) (λv O=>wpAny (model X.prog X.w) X.A (eval b X.env) (λu Y=>wpAny (model X.prog X.w) X.A (f v u) Q X.xe Y) X.xe O) X.xe s:=by
 refine thn (ha J0 s σ H _ I h) λv s1 W=>?_
 have⟨x,H1,I1,r1,q1⟩:=W;refine thn (hb J0 s1 σ H1 _ I1 q1) λu Z U=>?_
 have⟨y,H2,I2,r2,q2⟩:=U;exact hf v u Z x y H2 I2 r1 r2 q2
theorem DR{op:qq2}(W:OpR X (qi0 op) r)(O:PE X a ta)(hb:PE X b tb):PE X (.BinOp a op b pos) (tOp r ta tb):=by intro J0 s σ H Q I h;exact wpAny_BinOp (AK O hb I h λv u U x y H2 I2 Y Z q=>W J0 U σ H2 x y v u Q I2 Y Z q)
theorem DS{op:UnaryOp}{r:V->Hp->VK->Prop}(ho:UnR X (unaryOp op) r)(U:PE X a ta):PE X (.UnaryOp op a pos) (tUn r ta):=by intro J0 s σ H Q I h;exact UnaryOp_ (thn (U J0 s σ H _ I h) λv s1 O=>by have⟨x,H1,W,Y,Z⟩:=O;exact ho J0 s1 σ H1 x v Q W Y Z)
theorem opI {f:Value->Value->Sem Value} {C:Int->Int->Prop} {g:Int->Int->Int}
  (O:∀(i j:Int)(t u:Tok)(s:qa7)(Q E:Value->qa7->Prop),C i j->Q (.int (g i j) s.toks) {s with toks:=s.toks+1}->wpAny (model X.prog X.w) X.A (f (.int i t) (.int j u)) Q E s) :
  OpR X f (gW C λi j=>.int (g i j)):=by
 intro J0 s σ H x y v u Q I U W h;have⟨i,j,rfl,rfl,hc,q⟩:=h;have⟨t,rfl⟩:=U;have⟨t',rfl⟩:=W;exact O i j t t' s _ _ hc ⟨.int (g i j),H,I.tok _,⟨_,rfl⟩,q⟩
theorem sG {f:Value->Value->Sem Value} {g:Int->Int->Int}
  (O:∀(i j:Int)(t u:Tok)(s:qa7)(Q E:Value->qa7->Prop),Q (.int (g i j) s.toks) {s with toks:=s.toks+1}->wpAny (model X.prog X.w) X.A (f (.int i t) (.int j u)) Q E s) :
  OpR X f (rI0 λi j=>.int (g i j)):=by
 intro J0 s σ H x y v u Q I U W h;have⟨i,j,rfl,rfl,q⟩:=h;have⟨t,rfl⟩:=U;have⟨t',rfl⟩:=W;exact O i j t t' s _ _ ⟨.int (g i j),H,I.tok _,⟨_,rfl⟩,q⟩
theorem opB0 {f:Value->Value->Sem Value} {g:Int->Int->Bool}
  (O:∀(i j:Int)(t u:Tok)(s:qa7)(Q E:Value->qa7->Prop),Q (.bool (g i j)) s->wpAny (model X.prog X.w) X.A (f (.int i t) (.int j u)) Q E s) :
  OpR X f (rI0 λi j=>.bl (g i j)):=by
 intro J0 s σ H x y v u Q I U W h;have⟨i,j,rfl,rfl,q⟩:=h;have⟨t,rfl⟩:=U;have⟨t',rfl⟩:=W;exact O i j t t' s _ _ ⟨.bl (g i j),H,I,rfl,q⟩
def AL(i j:Int):Prop:=0<=j/\j<=1000000/\i.natAbs<2^64
def CMul(i j:Int):Prop:=(-(2^64)<i/\i<2^64)\/(-(2^64)<j/\j<2^64)
theorem CMul.ok{i j:Int}(h:CMul i j):IntMulOk i j:=by
 rcases h with ⟨h1,h2⟩|⟨h1,h2⟩
 .exact .of_left (intBits_le_64 h1 h2)
 .exact .of_right (intBits_le_64 h1 h2)
theorem mM(k:Nat):(0:Int)<=2^k:=by rw[two_pow_cast];exact Int.natCast_nonneg _
theorem AM:OpR X (qi0 .Add) (rI0 λi j=>.int (i+j)):=sG λ_ _ _ _ _ _ _ q=>add_int q
theorem AN:OpR X (qi0 .Sub) (rI0 λi j=>.int (i-j)):=sG λ_ _ _ _ _ _ _ q=>sub_int q
theorem AO:OpR X (qi0 .Mult) (gW CMul λi j=>.int (i*j)):=opI λ_ _ _ _ _ _ _ hc q=>mul_int q hc.ok
theorem AQ:OpR X (qi0 .Mod) (gW (λ_ j=>0<j) λi j=>.int (i%j)):=opI λi j _ _ _ _ _ hc q=>by have h1:(0:Int)<j:=hc;exact mod_int' Θ (by rw[Int.fmod_eq_emod_of_nonneg i Θ];exact q)
theorem AR:OpR X (qi0 .Pow) (gW AL λi j=>.int (i^j.toNat)):=opI λ_ _ _ _ _ _ _ hc q=>pow_int_small hc.1 hc.2.1 hc.2.2 q
theorem AS:OpR X (qi0 .RShift) (gW (λ_ j=>0<=j) λi j=>.int (i/2^j.toNat)):=opI λi j _ _ _ _ _ hc q=>rshift_int hc (by rw[qw8 i (mM _)];exact q)
theorem AT:OpR X (qi0 .BitAnd) (rI0 λi j=>.int (qx9 i j)):=sG λ_ _ _ _ _ _ _ q=>and_int q
theorem DT:OpR X (qi0 .BitOr) (rI0 λi j=>.int (qj8.bitOr i j)):=sG λ_ _ _ _ _ _ _ q=>or_int q
theorem AU:OpR X (qi0 .BitXor) (rI0 λi j=>.int (qj8.bitXor i j)):=sG λ_ _ _ _ _ _ _ q=>xor_int q
theorem unI {f:Value->Sem Value} {g:Int->Int}
  (O:∀(i:Int)(t:Tok)(s:qa7)(Q E:Value->qa7->Prop),Q (.int (g i) s.toks) {s with toks:=s.toks+1}->wpAny (model X.prog X.w) X.A (f (.int i t)) Q E s) :
  UnR X f (rU λi=>.int (g i)):=by
 intro J0 s σ H x v Q I U h;have⟨i,rfl,q⟩:=h;have⟨t,rfl⟩:=U;exact O i t s _ _ ⟨.int (g i),H,I.tok _,⟨_,rfl⟩,q⟩
theorem AV:UnR X (unaryOp .USub) (rU λi=>.int (-i)):=unI λ_ _ _ _ _ q=>neg_int q
end
noncomputable def AW:V->V->Bool
 |.non,.non=>θ|.non,.int _=>θ|.int _,.non=>θ|.non,.bl _=>θ|.bl _,.non=>θ|.non,.str _=>θ|.str _,.non=>θ
 |.int _,.int _=>θ|.bl _,.bl _=>θ|.str _,.str _=>θ|.byt _,.byt _=>θ
 |.int _,.str _=>θ|.str _,.int _=>θ|.bl _,.str _=>θ|.str _,.bl _=>θ
 |_,_=>ξ
def rEq:R2:=λx y H Q=>AW x y=θ/\Q (.bl (decide (x=y))) H
def rNe:R2:=λx y H Q=>AW x y=θ/\Q (.bl (!decide (x=y))) H
theorem oy{i j:Int}:decide (V.int i=V.int j)=(i==j):=by rw[qo7];simp
theorem sH{i j:Bool}:decide (V.bl i=V.bl j)=(i==j):=by rw[qo7];simp
theorem oz{i j:Str}:decide (V.str i=V.str j)=(i==j):=by rw[qo7];simp
theorem oA{i j:Array UInt8}:decide (V.byt i=V.byt j)=(i.toList==j.toList):=by rw[qo7];cases i;cases j;simp
section
variable{X:Cx}{a b c:J8}{ta tb tc:TE}{pos:Pos}
theorem ak{s:qa7}{Q:VK}{k k':Bool}(I:Inv X J0 σ H s)(q:Q (.bl k) H)(e:k=k'):EP X J0 σ Q (.bool k') s:=by subst e;exact⟨.bl k,H,I,rfl,q⟩
theorem DU:OpR X (qe2 .Eq) rEq:=by
 intro J0 s σ H x y v u Q I Y O h;have⟨U,q⟩:=h;cases x with
 |non=>
  cases Y;cases y with
  |non=>cases O;exact PySem.EqNone.eq_none_none (ak I q Ξ)
  |bl j=>cases O;exact PySem.EqNone.eq_none_bool (ak I q Ξ)
  |int j=>have⟨t',rfl⟩:=O;exact PySem.EqNone.eq_none_int (ak I q Ξ)
  |str j=>have⟨t',rfl⟩:=O;exact PySem.EqNone.eq_none_str (ak I q Ξ)
  |_=>exact absurd (show ξ=θ from U) qb7
 |bl i=>
  cases Y;cases y with
  |non=>cases O;exact PySem.EqNone.eq_bool_none (ak I q Ξ)
  |bl j=>cases O;exact eq_bool (ak I q sH)
  |str j=>have⟨t',rfl⟩:=O;exact PySem.EqMixed.eq_bool_str (ak I q Ξ)
  |_=>exact absurd (show ξ=θ from U) qb7
 |int i=>
  have⟨t,rfl⟩:=Y;cases y with
  |non=>cases O;exact PySem.EqNone.eq_int_none (ak I q Ξ)
  |int j=>have⟨t',rfl⟩:=O;exact eq_int (ak I q oy)
  |str j=>have⟨t',rfl⟩:=O;exact PySem.EqMixed.eq_int_str (ak I q Ξ)
  |_=>exact absurd (show ξ=θ from U) qb7
 |str i=>
  have⟨t,rfl⟩:=Y;cases y with
  |non=>cases O;exact PySem.EqNone.eq_str_none (ak I q Ξ)
  |bl j=>cases O;exact PySem.EqMixed.eq_str_bool (ak I q Ξ)
  |int j=>have⟨t',rfl⟩:=O;exact PySem.EqMixed.eq_str_int (ak I q Ξ)
  |str j=>have⟨t',rfl⟩:=O;exact eq_str (ak I q oz)
  |_=>exact absurd (show ξ=θ from U) qb7
 |byt i=>
  have⟨t,rfl⟩:=Y;cases y with
  |byt j=>have⟨t',rfl⟩:=O;exact PySem.W.eq_bytes (ak I q oA)
  |_=>exact absurd (show ξ=θ from U) qb7
 |_=>cases y<;>exact absurd (show ξ=θ from U) qb7
theorem DV:OpR X (qe2 .NotEq) rNe:=by
 intro J0 s σ H x y v u Q I Y O h;have⟨U,q⟩:=h;cases x with
 |non=>
  cases Y;cases y with
  |non=>cases O;exact PySem.EqNone.ne_none_none (ak I q Ξ)
  |bl j=>cases O;exact PySem.EqNone.ne_none_bool (ak I q Ξ)
  |int j=>have⟨t',rfl⟩:=O;exact PySem.EqNone.ne_none_int (ak I q Ξ)
  |str j=>have⟨t',rfl⟩:=O;exact PySem.EqNone.ne_none_str (ak I q Ξ)
  |_=>exact absurd (show ξ=θ from U) qb7
 |bl i=>
  cases Y;cases y with
  |non=>cases O;exact PySem.EqNone.ne_bool_none (ak I q Ξ)
  |bl j=>cases O;exact ne_bool (ak I q (congrArg not sH))
  |str j=>have⟨t',rfl⟩:=O;exact PySem.EqMixed.ne_bool_str (ak I q Ξ)
  |_=>exact absurd (show ξ=θ from U) qb7
 |int i=>
  have⟨t,rfl⟩:=Y;cases y with
  |non=>cases O;exact PySem.EqNone.ne_int_none (ak I q Ξ)
  |int j=>have⟨t',rfl⟩:=O;exact ne_int (ak I q (congrArg not oy))
  |str j=>have⟨t',rfl⟩:=O;exact PySem.EqMixed.ne_int_str (ak I q Ξ)
  |_=>exact absurd (show ξ=θ from U) qb7
 |str i=>
  have⟨t,rfl⟩:=Y;cases y with
  |non=>cases O;exact PySem.EqNone.ne_str_none (ak I q Ξ)
  |bl j=>cases O;exact PySem.EqMixed.ne_str_bool (ak I q Ξ)
  |int j=>have⟨t',rfl⟩:=O;exact PySem.EqMixed.ne_str_int (ak I q Ξ)
  |str j=>have⟨t',rfl⟩:=O;exact ne_str (ak I q (congrArg not oz))
  |_=>exact absurd (show ξ=θ from U) qb7
 |byt i=>
  have⟨t,rfl⟩:=Y;cases y with
  |byt j=>have⟨t',rfl⟩:=O;exact PySem.W.ne_bytes (ak I q (congrArg not oA))
  |_=>exact absurd (show ξ=θ from U) qb7
 |_=>cases y<;>exact absurd (show ξ=θ from U) qb7
theorem DW:OpR X (qe2 .Lt) (rI0 λi j=>.bl (decide (i<j))):=opB0 λ_ _ _ _ _ _ _ q=>lt_int q
theorem DX:OpR X (qe2 .Gt) (rI0 λi j=>.bl (decide (j<i))):=opB0 λ_ _ _ _ _ _ _ q=>gt_int q
theorem qt:OpR X (qe2 .In) (λx y H Q=>∃i j,x=.str i/\y=.str j/\Q (.bl (!(qs4 j i 0 j.length 1).isEmpty)) H):=by intro J0 s σ H x y v u Q I O U h;have⟨i,j,rfl,rfl,q⟩:=h;have⟨t,rfl⟩:=O;have⟨t',rfl⟩:=U;exact in_str (ak I q rfl)
theorem AX:OpR X (qe2 .Is) (λx y H Q=>y=.non/\Q (.bl (decide (x=.non))) H):=by
 intro J0 s σ H x y v u Q I O U h;have⟨rfl,q⟩:=h;cases U;refine is_none_gen (ak I q ?_)
 cases x<;>first
  |(cases O;rfl)
  |(have⟨t,rfl⟩:=O;rfl)
theorem wO:OpR X (qe2 .IsNot) (λx y H Q=>y=.non/\Q (.bl (!decide (x=.non))) H):=by
 intro J0 s σ H x y v u Q I O U h;have⟨rfl,q⟩:=h;cases U;refine isnot_none_gen (ak I q ?_)
 cases x<;>first
  |(cases O;rfl)
  |(have⟨t,rfl⟩:=O;rfl)
theorem OpR.or{f:Value->Value->Sem Value}{O:R2}(h:OpR X f r)(h':OpR X f O):OpR X f (λx y H Q=>r x y H Q\/O x y H Q):=by
 intro J0 s σ H x y v u Q I U W q;rcases q with q|q
 .exact h J0 s σ H x y v u Q I U W q
 .exact h' J0 s σ H x y v u Q I U W q
theorem wP{op:CmpOp}(W:OpR X (qe2 op) r)(O:PE X a ta)(hb:PE X b tb)(hm:qz5 op b=ξ):PE X (.Compare a [op] [b] pos) (tOp r ta tb):=by intro J0 s σ H Q I h;exact wpAny_Compare1 (AK O hb I h λv u U x y H2 I2 Y Z q=>W J0 U σ H2 x y v u Q I2 Y Z q) hm
def DY(t:TE):TT:=λσ H Q=>t σ H λx H'=>∃k,x=.bl k/\Q k H'
theorem wQ{op:CmpOp}(ho:OpR X (qe2 op) r)(U:PE X a ta)(hb:PE X b tb)(hm:qz5 op b=ξ):PT X (.Compare a [op] [b] pos) (DY (tOp r ta tb)):=by
 intro J0 s σ H Q I h
 refine wpAny_isTrue_Compare1 (thn (U J0 s σ H _ I h) λv s1 ⟨x,H1,Y,r1,q1⟩=>thn (hb J0 s1 σ H1 _ Y q1) λu W ⟨y,H2,I2,r2,q2⟩=>thn (ho J0 W σ H2 x y v u _ I2 r1 r2 q2) λc s3 O=>?_) hm
 have⟨z,H3,I3,r3,k,e,Z⟩:=O;subst e;cases r3;exact qp5 ⟨H3,I3,Z⟩
def AY(K:xA9)(x:V)(H:Hp)(k:Bool):Prop:=
 match x with
 |.non=>k=ξ
 |.bl b=>k=b
 |.int i=>k=(i != 0)
 |.str y=>y.length<=qa5/\k=((y.length:Int) != 0)
 |.byt y=>y.size<=qa5/\k=((y.size:Int) != 0)
 |.ref p=>(∃xs,SqL K H p xs/\k=!xs.isEmpty)\/(∃xs,SqT K H p xs/\k=!xs.isEmpty)\/∃J1,H p=ς (.dK J1)/\k=!J1.isEmpty
 |_=>False
theorem mN{κ:Type}{J1:η (κ×V)}{vs:η (κ×Value)}(r:KV J1 vs):(!vs.isEmpty)=!J1.isEmpty:=by cases r<;>rfl
theorem gY{J3:η Value}(r:Vals xs J3):(!J3.toArray.isEmpty)=!xs.isEmpty:=by cases r<;>simp
theorem fG:(qa5:Nat)<2^63:=by rw[qc1];decide
theorem AZ:TruR X (λx H Q=>∃k,AY X.K x H k/\Q k H):=by
 intro J0 s σ H x v Q I rx h;have⟨k,e,q⟩:=h;have hl:=fG;have hs:qa5=16777216:=qc1;cases x with
 |non=>cases rx;have e':k=ξ:=e;subst e';exact truthy_none ⟨H,I,q⟩
 |bl b=>cases rx;have e':k=b:=e;subst e';exact qp5 ⟨H,I,q⟩
 |int i=>have⟨t,rfl⟩:=rx;have e':k=(i != 0):=e;subst e';exact PySem.P.truthy_int ⟨H,I,q⟩
 |str y=>have⟨t,rfl⟩:=rx;obtain⟨hy,e'⟩:y.length<=qa5/\k=((y.length:Int) != 0):=e;subst e';exact PySem.P.truthy_str Θ ⟨H,I.tok _,q⟩
 |byt y=>have⟨t,rfl⟩:=rx;obtain⟨hy,e'⟩:y.size<=qa5/\k=((y.size:Int) != 0):=e;subst e';exact PySem.W.truthy_bytes Θ ⟨H,I.tok _,q⟩
 |ref p=>
  cases rx;have e':(∃xs,SqL X.K H p xs/\k=!xs.isEmpty)\/(∃xs,SqT X.K H p xs/\k=!xs.isEmpty)\/∃J1,H p=ς (.dK J1)/\k=!J1.isEmpty:=e;rcases e' with ⟨xs,hx,e'⟩|⟨xs,hx,e'⟩|⟨J1,hx,e'⟩
  .subst e';have⟨J3,r,pl,hz⟩:=I.list hx;have hlen:=r.length;exact wpAny_truthy_list pl.isList (by rwa[qb5];lia) ⟨H,I.tok _,by rw[gY r];exact q⟩
  .subst e';have⟨J3,r,pl,hz⟩:=I.tuple hx;have hlen:=r.length;exact truthy_tuple pl (by rwa[qb5];lia) ⟨H,I.tok _,by rw[gY r];exact q⟩
  .subst e';obtain⟨hz,hS,vs,r,m⟩:J1.length<=qa5/\(p==qi7)=ξ/\∃vs,KV J1 vs/\s.heap.DictOf (aj X.prog X.w) p vs:=I.hok p _ hx;have hlen:J1.length=vs.length:=Paired.length r;exact wpAny_truthy_dict hS m Θ ⟨H,I.tok _,by rw[mN r];exact q⟩
 |_=>exact(show False from e).elim
theorem sI (W:PE X a ta) (he:∀ O,isTrue a X.env O=(do let v <- O;qx8 a.pos;qo5 [v] (truthy v))) :
  PT X a (λσ H Q=>ta σ H λx H'=>∃k,AY X.K x H' k/\Q k H'):=by
 intro J0 s σ H Q I h;exact isTrue_plain (thn (W J0 s σ H _ I h) λv s1 U=>by have⟨x,H1,Y,Z,q1⟩:=U;exact AZ J0 s1 σ H1 x v Q Y Z q1) (he _)
theorem mO:OpR X (qi0 .Add) (λx y H Q=>∃i j,x=.str i/\y=.str j/\i.length+j.length<=qa5/\Q (.str (i++j)) H):=by intro J0 s σ H x y v u Q I O U h;have⟨i,j,rfl,rfl,hz,q⟩:=h;have⟨t,rfl⟩:=O;have⟨t',rfl⟩:=U;exact add_str (λt' W=>⟨.str (i++j),H,I.tok _,⟨_,rfl⟩,q⟩) hz
theorem dC{x:V}(r:Vals [x] us):∃u,us=[u]/\RelV x u:=by
 cases r with
 |cons O U=>cases U;exact⟨_,rfl,O⟩
theorem zt{x:V}(r:Vals [x,y] us):∃u w',us=[u,w']/\RelV x u/\RelV y w':=by
 cases r with
 |cons W O=>
  cases O with
  |cons U Y=>cases Y;exact⟨_,_,rfl,W,U⟩
theorem qu:CallR X (.type "int") (λxs H Q=>(∃i,xs=[.int i]/\Q (.int i) H)\/∃k,xs=[.bl k]/\Q (.int (if k then 1 else 0)) H):=by
 intro J0 s σ H xs us Q I r h;rcases h with ⟨i,rfl,q⟩|⟨k,rfl,q⟩
 .have⟨u,rfl,t,rfl⟩:=dC r;exact call_int_int ⟨.int i,H,I,⟨_,rfl⟩,q⟩
 .have⟨u,rfl,O⟩:=dC r;cases O;exact call_int_bool ⟨.int (if k then 1 else 0),H,I.tok _,⟨_,rfl⟩,q⟩
def LenV(K:xA9)(x:V)(H:Hp)(n:Nat):Prop:=
 match x with
 |.str y=>y.length<=qa5/\n=y.length
 |.byt y=>y.size<=qa5/\n=y.size
 |.ref p=>(∃xs,SqL K H p xs/\n=xs.length)\/∃xs,SqT K H p xs/\n=xs.length
 |_=>False
theorem sM:CallR X (.builtin "len") (λxs H Q=>∃x n,xs=[x]/\LenV X.K x H n/\Q (.int n) H):=by
 intro J0 s σ H xs us Q I r h;have⟨x,n,rfl,e,q⟩:=h;have⟨u,rfl,rx⟩:=dC r;have hl:=fG;have hs:qa5=16777216:=qc1;cases x with
 |str y=>have⟨t,rfl⟩:=rx;obtain⟨hy,e'⟩:y.length<=qa5/\n=y.length:=e;subst e';exact len_str Θ ⟨.int _,H,I.tok _,⟨_,rfl⟩,q⟩
 |byt y=>have⟨t,rfl⟩:=rx;obtain⟨hy,e'⟩:y.size<=qa5/\n=y.size:=e;subst e';exact PySem.W.len_bytes Θ ⟨.int _,H,I.tok _,⟨_,rfl⟩,q⟩
 |ref p=>
  cases rx;have e':(∃xs,SqL X.K H p xs/\n=xs.length)\/∃xs,SqT X.K H p xs/\n=xs.length:=e;rcases e' with ⟨xs,hx,e'⟩|⟨xs,hx,e'⟩
  .subst e';have⟨J3,r',pl,hz⟩:=I.list hx;have hlen:=r'.length;exact Calls.call_len_list pl.isList (by rwa[qb5];lia) ⟨.int xs.length,H,I.tok _,⟨_,by rwa[qb5];rw[hlen]⟩,q⟩
  .subst e';have⟨J3,r',pl,hz⟩:=I.tuple hx;have hlen:=r'.length;exact len_tuple pl (by rwa[qb5];lia) ⟨.int xs.length,H,I.tok _,⟨_,by rwa[qb5];rw[hlen]⟩,q⟩
 |_=>exact(show False from e).elim
end
structure ObjM(h:Heap)(x dx C:J4)(mA:Str->Option Value):Prop where
 obj:h.get? x=ς (xG9 C dx)
 ns:h.Ns1 dx mA
 ne:dx≠x
variable{dx:J4}{mA:Str->ζ Value}
omit x in
theorem qv{h:Heap}(n:h.Ns1 dx mA):∃U,h.get? dx=ς U/\∀name,xK9 name U=ς (mA name):=by
 have⟨o,es,ep,Z,hd,Y,_,hm⟩:=n;refine⟨o,Z,λname=>?_⟩;have e:=hm name;unfold nsFind findBy at e;rw[<- Array.find?_toList]at e;unfold xK9;rw[hd];dsimp only;split
 .rename_i y q;rw[q]at e;exact congrArg ς e
 .rename_i q;rw[q]at e
  have a:es.toList.any (·.refKey)=ξ:=by rw[List.any_eq_false];intro y hy;have⟨z,t,O⟩:=Y y (Array.mem_toList_iff.mp hy);simp[DictEntry.refKey,O]
  have a':¬ es.toList.any (·.refKey)=θ:=by rw[a];exact qb7
  rw[if_neg a'];exact congrArg ς e
variable{C:J4}
theorem ObjM.look{h:Heap}{x:J4}(I:ObjM h x dx C mA):∃O,PySem.W.InstAt h x (xG9 C dx) C (ς O)/\∀name,xK9 name O=ς (mA name):=
 let ⟨O,ho,hl⟩:=qv I.ns
 ⟨O,⟨I.obj,rfl,rfl,ho⟩,hl⟩
variable{kw:η (Str×Value)}
section
variable{prog:qe3}{w:J5}{A:qk4}{E:Value->qa7->Prop}{s:qa7}{K:xA9}{x dx C f:J4}{mA:Str->ζ Value}{name:Str}{v:Value}
theorem wR{O:Bool}(X:K.In s.heap)(I:ObjM s.heap x dx C mA)(hg:xJ9 K C name=θ)(Z:xL9 K C=θ)
 (Y:xB9 K (.ref C) name=ς ψ) (hv:mA name=ς v) (U:PySem.W.handedIn v=θ) (h:Q v {s with toks:=s.toks+1}) :
  wpAny (model prog w) A (getAttr (.ref x) name O) Q E s:=by
 have⟨od,J,hl⟩:=I.look;exact PySem.W.get_value X J (xP9 hg).1 (PySem.W.findObj_own Z Y rfl (by rw[hl,hv])) U h
theorem sO {pl:Sem Bool} {Q:Value×η Value->qa7->Prop} (X:K.In s.heap) (I:ObjM s.heap x dx C mA) (O:xJ9 K C name=θ)
  (hf:xB9 K (.ref C) name=ς (ς (.ref f))) (Y:xH9 K (.ref f)=θ) (U:mA name=ψ) (h:Q (.ref f,[.ref x]) s) :
  wpAny (model prog w) A (qw2 (.ref x) name pl) Q E s:=by
 have⟨Z,J,hl⟩:=I.look;exact PySem.W.method_fn X J (xP9 O).1 (xP9 O).2 hf (beq_iff_eq.mp Y) (by show(xK9 name Z).map (·.isSome)=ς ξ;rw[hl,U];rfl) h
theorem wS {ns:η Str} {Q:Unit->qa7->Prop} (X:K.In s.heap) (I:ObjM s.heap x dx C mA)
  (hs:xB9 K (.ref C) "__setattr__"=ς (ς (.builtin "object.__setattr__"))) (hp:xQ9 K C=θ) (ht:xR9 K C name=ς ψ) (hh:xL9 K C=θ)
  (hw:PySem.Within mA ns) (hsz:ns.length<=qa5)
  (h:∀h',ObjM h' x dx C (λy=>if y=name then ς v else mA y)->qg9 dx s.heap h'->Q () {s with heap:=h',toks:=s.toks+2}) :
  wpAny (model prog w) A (setAttr (.ref x) name v) Q E s:=by
 have⟨od,J,hl⟩:=I.look;refine PySem.W.set_plain X J hs (PySem.W.osa_open (s:={s with toks:=s.toks+1}) (r:=ψ) X J hp ht λb=>?_);have⟨cd,hc,Y⟩:=PySem.W.any_some hh;have hx:s.heap.get? x=ς ⟨.ref C,ς dx,.plain,#[]⟩:=I.obj;refine wB (qa2 (wB (wB (wpAny_loadPart hx (wB (PySem.W.Looks.here (s:={s with toks:=s.toks+1}) (PySem.W.looks_clsIn X hc) ?_))))));rw[Y];refine qa2 (a:=ς dx) (wB (qa2 (wB ?_)));refine wpAny_nsSet1 (s:={s with toks:=s.toks+1}) I.ns λh' O U=>?_
 have⟨oD,esD,epD,hoD,hdD,Z⟩:=O.count (PySem.Within.cons name v hw);refine wB (wpAny_lookBehind hoD (by rw[hdD];exact pastItsLine_dict (qd7 Z (by rw[qb8];lia))) ?_);exact qa2 (h _ ⟨(U.2 _ (qj5 I.ne)).trans I.obj,O,I.ne⟩ U)
theorem sP{R:Result->qa7->Prop}{vs:η Value}(X:K.In s.heap)(hm:xS9 K C=θ)
 (hi:xB9 K (.ref C) "__init__"=ς (ς (.ref f))) (U:PySem.W.typeIn K (.ref f)=ς (.type "function"))
 (h:qu7 (model prog w) (A.under (.builtin "type.__call__" ⟨.ref C::vs,kw⟩)) (.call (.ref f) ⟨.ref (s.heap.objs.size+1)::vs,kw⟩) (PySem.W.InitBack (s.heap.objs.size+1) R)
 {s with heap:=(s.heap.push xE9).push (xG9 C s.heap.objs.size)}) :
  qu7 (model prog w) A (.call (.ref C) ⟨vs,kw⟩) R s:=by
 have⟨Y,g,d,t,Z⟩:=s;exact PySem.W.make_core (PySem.W.makes_of X hm) (PySem.W.looks_findIn X hi) (λO=>PySem.W.bind_fn X O U) (.inl rfl) h
end
noncomputable def bj(f:Str)(v:V):η (Str×V)->η (Str×V)
 |[]=>[(f,v)]
 |(g,x)::r=>if g=f then(g,v)::r else(g,x)::bj f v r
theorem gb(f g:Str)(v:V):∀fs:η (Str×V),(bj f v fs).lookup g=if g=f then ς v else fs.lookup g
 |[]=>by
  show ql3 g [(f,v)]=_;by_cases h:g=f
  .have hb:(g==f)=θ:=beq_iff_eq.mpr h;rwa[ql3,hb,if_pos h]
  .have hb:(g==f)=ξ:=beq_eq_false_iff_ne.mpr h;rwa[ql3,hb,if_neg h]
 |(k,x)::r=>by
  have U:=gb f g v r;rw[show bj f v ((k,x)::r)=(if k=f then(k,v)::r else(k,x)::bj f v r)from rfl];by_cases O:k=f
  .rw[if_pos O];by_cases h:g=k
   .have hb:(g==k)=θ:=beq_iff_eq.mpr h;rwa[ql3,hb,if_pos (h.trans O)]
   .have hb:(g==k)=ξ:=beq_eq_false_iff_ne.mpr h;rwa[ql3,hb,if_neg (λe:g=f=>h (e.trans O.symm))]
  .rw[if_neg O];by_cases h:g=k
   .have hb:(g==k)=θ:=beq_iff_eq.mpr h;rwa[ql3,hb,if_neg (λe:g=f=>O (h.symm.trans e))]
   .have hb:(g==k)=ξ:=beq_eq_false_iff_ne.mpr h;rwa[ql3,hb];exact U
theorem fH(f:Str)(v:V):∀fs:η (Str×V),f∈(bj f v fs).map (·.1)/\∀g,g∈fs.map (·.1)->g∈(bj f v fs).map (·.1)
 |[]=>⟨by simp[bj],λg h=>by simp at h⟩
 |(k,x)::r=>by
  have⟨W,U⟩:=fH f v r;rw[show bj f v ((k,x)::r)=(if k=f then(k,v)::r else(k,x)::bj f v r)from rfl];by_cases O:k=f
  .rw[if_pos O];subst O;exact⟨Ξ,λg h=>‹h›⟩
  .rw[if_neg O];refine⟨?_,λg h=>?_⟩
   .rw[qa3];exact qe7 _ W
   .rw[qa3]at h ⊢;rcases qc3.mp h with e|e
    .exact qc3.mpr (.inl e)
    .exact qe7 _ (U g e)
theorem gd(f:Str)(v:V):∀fs:η (Str×V),(bj f v fs).length<=fs.length+1
 |[]=>by simp[bj]
 |(k,x)::r=>by
  have U:=gd f v r;rw[show bj f v ((k,x)::r)=(if k=f then(k,v)::r else(k,x)::bj f v r)from rfl];by_cases O:k=f
  .rw[if_pos O,qb8,qb8];lia
  .rw[if_neg O,qb8,qb8];lia
theorem RelO.some_of{v:V}{o:ζ Value}(r:RelO (ς v) o):∃u,o=ς u/\RelV v u:=by
 cases o with
 |none=>exact(show False from r).elim
 |some u=>exact⟨u,rfl,r⟩
theorem RelO.none_of{o:ζ Value}(r:RelO ψ o):o=ψ:=by
 cases o with
 |none=>rfl
 |some u=>exact(show False from r).elim
theorem qw{v:V}(r:RelV v u):PySem.W.handedIn u=θ:=by
 cases v with
 |non=>cases (show u=qh0 from r);rfl
 |bl b=>cases (show u=qr5 b from r);rfl
 |int i=>have⟨t,e⟩:=(show ∃t,u=zd7 i t from r);cases e;rfl
 |str x=>have⟨t,e⟩:=(show ∃t,u=zd8 x t from r);cases e;rfl
 |byt b=>have⟨t,e⟩:=(show ∃t,u=Value.bytes b t from r);cases e;rfl
 |flt b=>have⟨t,e⟩:=(show ∃t,u=Value.float b t from r);cases e;rfl
 |ref a=>cases (show u=qb6 a from r);rfl
 |ty n=>cases (show u=qp4 n from r);rfl
section
variable{P:qe3}{w:J5}{H H':Hp}{h h':Heap}{a C dx:J4}{fs fs':η (Str×V)}
theorem gw(O:HOk P w H h)(e:H a=ς (.ins C dx fs)):∃mA,ObjM h a dx C mA/\(∀f,RelO (fs.lookup f) (mA f))/\PySem.Within mA (fs.map (·.1))/\fs.length<=1000/\H dx=ς (.own a):=by have⟨d,z,U,ob,mA,n,r,q⟩:=(show ObjOk P w H h a (.ins C dx fs)from O a _ e);exact⟨mA,⟨ob,n,U⟩,r,q,z,d⟩
end
structure Cls(K:xA9)(C:J4):Prop where
 pg:xJ9 K C Str.empty=θ
 hd:xL9 K C=θ
 po:xQ9 K C=θ
 sa:xB9 K (.ref C) "__setattr__"=ς (ς (.builtin "object.__setattr__"))
theorem Cls.get(c:Cls K C)(f:Str):xJ9 K C f=θ:=c.pg
def NoAttr(K:xA9)(C:J4)(f:Str):Prop:=xB9 K (.ref C) f=ς ψ
theorem NoAttr.taker{f:Str}(n:NoAttr K C f):xR9 K C f=ς ψ:=by unfold xR9;rw[show xB9 K (.ref C) f=ς ψ from n];rfl
structure Meth(K:xA9)(C:J4)(m:Str)(f:J4):Prop where
 at_:xB9 K (.ref C) m=ς (ς (.ref f))
 fn:xH9 K (.ref f)=θ
 kp:xF9 K (.ref f)=θ
variable{m:Str}
section
variable{X:Cx}{J0:η (J4×Obj)}{σ:St}{H:Hp}{s:qa7}{a C dx:J4}{fs:η (Str×V)}{f:Str}{v:V}{A:qk4}{E:Value->qa7->Prop}
theorem gZ{b:Bool}(I:Inv X J0 σ H s)(e:H a=ς (.ins C dx fs))(c:Cls X.K C)(n:NoAttr X.K C f)(l:fs.lookup f=ς v)
 (h:∀u s',Inv X J0 σ H s'->RelV v u->Q u s'):wpAny (model X.prog X.w) A (getAttr (.ref a) f b) Q E s:=by
 have⟨mA,O,r,_,_,_⟩:=gw I.hok e;have⟨u,W,U⟩:=RelO.some_of (v:=v) (o:=mA f) (by rw[<- l];exact r f);exact wR I.kIn O (c.get f) c.hd n W (qw U) (h u _ (I.tok _) U)
theorem dJ{g:J4}{pl:Sem Bool}{Q:Value×η Value->qa7->Prop}(I:Inv X J0 σ H s)(e:H a=ς (.ins C dx fs))(c:Cls X.K C)(k:Meth X.K C m g)(l:fs.lookup m=ψ)
 (h:Q (.ref g,[.ref a]) s):wpAny (model X.prog X.w) A (qw2 (.ref a) m pl) Q E s:=by
 have⟨mA,O,r,_,_,_⟩:=gw I.hok e;have U:mA m=ψ:=RelO.none_of (by rw[<- l];exact r m);exact sO I.kIn O (c.get m) k.at_ k.fn U h
theorem g6{Q:Unit->qa7->Prop}(I:Inv X J0 σ H s)(e:H a=ς (.ins C dx fs))(c:Cls X.K C)(n:NoAttr X.K C f)(hl:fs.length<1000)(ry:RelV y u)
 (h:∀s',Inv X J0 σ (upd H a (.ins C dx (bj f y fs))) s'->Q () s'):wpAny (model X.prog X.w) A (setAttr (.ref a) f u) Q E s:=by
 have⟨mA,O,r,wi,_,W⟩:=gw I.hok e;have hz:(fs.map (·.1)).length<=qa5:=by rw[qa6,qc1];lia
 refine wS I.kIn O c.sa c.po n.taker c.hd wi hz λh' U sb=>h _ ?_
 have Z:∃o,h'.get? dx=ς o:=let ⟨o,_,_,e',_⟩:=U.ns;⟨o,e'⟩;refine I.write (x:=a) (e:=dx) (by rw[e];exact ql6) (.inr W) (λb q hb z=>(sb.2 b hb).trans z) Z ?_;refine⟨by rw[af O.ne];exact W,?_,O.ne,U.obj,_,U.ns,λg=>?_,λg Y=>?_⟩
 .have:=gd f y fs;lia
 .show RelO ((bj f y fs).lookup g) (if g=f then ς u else mA g);rw[gb];by_cases q:g=f
  .rw[if_pos q,if_pos q];exact ry
  .rw[if_neg q,if_neg q];exact r g
 .by_cases q:g=f
  .rw[q];exact(fH f y fs).1
  .refine(fH f y fs).2 g (wi g λz=>Y ?_);show(if g=f then ς u else mA g)=ψ;rw[if_neg q];exact z
theorem Inv.made (I:Inv X J0 σ H s):Inv X J0 σ (upd (upd H s.heap.objs.size (.own (s.heap.objs.size+1))) (s.heap.objs.size+1) (.ins C s.heap.objs.size []))
  {s with heap:=(s.heap.push xE9).push (xG9 C s.heap.objs.size)}:=by
 have O:(s.heap.push xE9).get? s.heap.objs.size=ς xE9:=qc2 s.heap rfl
 have e2:((s.heap.push xE9).push (xG9 C s.heap.objs.size)).get? (s.heap.objs.size+1)=ς (xG9 C s.heap.objs.size):=by
  have:=qc2 (s.heap.push xE9) (o:=xG9 C s.heap.objs.size) rfl
  rw[qo1]at this;assumption
 have Z:(s.heap.push xE9).Ns s.heap.objs.size (λ_=>ψ):=⟨xE9,#[],_,O,rfl,(λe he=>absurd he Ξ),λ_=>rfl⟩;have Y:=I.laid (a:=s.heap.objs.size) (o:=.own (s.heap.objs.size+1)) (h':=s.heap.push xE9) (t':=s.toks) (λb u q=>gP _ q) (nL _) ⟨_,O⟩;refine Y.laid (a:=s.heap.objs.size+1) (o:=.ins C s.heap.objs.size []) (t':=s.toks) (λb u q=>gP _ q) (Nat.le_of_eq (qo1 _ _)) ?_;have U:s.heap.objs.size≠s.heap.objs.size+1:=qc5 (qq3 _);refine⟨by rw[af U,ac],qg8 _,U,e2,λ_=>ψ,(Heap.Ns1.of_empty Z).at λo q=>gP _ q,λ_=>ql6,λy hy=>absurd rfl hy⟩
theorem wT{prog:qe3}{w:J5}{env:Env}{f:Str}{s:qa7}(hb:qj4 e f env (eval e env)=eval e env)
 (h:wpAny (model prog w) A (eval e env) (λo O=>wpAny (model prog w) A (getAttr o f θ) Q E O) E s):wpAny (model prog w) A (eval (.Attribute e f pos) env) Q E s:=
 Attribute_any_ h (by rw[arm_eval_Attribute,hb])
end
def tFld(K:xA9)(ta:TE)(f:Str):TE:=λσ H Q=>ta σ H λx H1=>∃a C dx fs v,x=.ref a/\H1 a=ς (.ins C dx fs)/\Cls K C/\NoAttr K C f/\fs.lookup f=ς v/\Q v H1
def sFld(K:xA9)(ta tv:TE)(f:Str):TS:=λD σ H=>tv σ H λy H1=>ta σ H1 λx H2=>∃a C dx fs,x=.ref a/\H2 a=ς (.ins C dx fs)/\Cls K C/\NoAttr K C f/\fs.length<1000∧D.nx σ (upd H2 a (.ins C dx (bj f y fs)))
def InOp(X:Cx)(op:qq2)(rd:V->V->Hp->VK->Prop):Prop:=∀(J0:η (J4×Obj))(s:qa7)(σ:St)(H:Hp)(x y:V)(u v:Value)(Q:VK),Inv X J0 σ H s->RelV x u->RelV y v->rd x y H Q->wpAny (model X.prog X.w) X.A (inplaceOp op u v) (EP X J0 σ Q) X.xe s
def wU(K:xA9)(ta tv:TE)(rd:V->V->Hp->VK->Prop)(f:Str):TS:=λD σ H=>ta σ H λx H1=>∃a C dx fs v,x=.ref a/\H1 a=ς (.ins C dx fs)/\Cls K C/\NoAttr K C f/\fs.lookup f=ς v∧tv σ H1 λy H2=>rd v y H2 λz U=>∃O fs',U a=ς (.ins C O fs')/\fs'.length<1000/\D.nx σ (upd U a (.ins C O (bj f z fs')))
section
variable{X:Cx}{o e value:J8}{f:Str}{pos pos' tpos:Pos}{ta tv:TE}
theorem A6(he:PE X e ta)(hb:qj4 e f X.env (eval e X.env)=eval e X.env):PE X (.Attribute e f pos) (tFld X.K ta f):=by intro J0 s σ H Q I h;refine wT hb (thn (he J0 s σ H _ I h) λu s1 O=>?_);have⟨x,H1,U,Z,a,C,dx,fs,v,ex,ea,c,n,l,q⟩:=O;subst ex;obtain rfl:u=qb6 a:=Z;exact gZ U ea c n l λu' s2 W Y=>⟨v,H1,W,Y,q⟩
theorem A7(U:PE X o ta)(Z:PE X value tv)(hs:qj6 value (ς (.Attribute o f pos')) pos.line X.env=pure ξ):PS X (.Assign [.Attribute o f pos'] value pos) (sFld X.K ta tv f):=by intro J0 s σ H D I h;refine plainObj_wpAny_Assign_Attribute (thn (Z J0 s σ H _ I h) λu s1 ⟨y,H1,W,ry,q⟩=>thn (U J0 s1 σ H1 _ W q) λov s2 O=>?_) hs;have⟨x,H2,Y,rx,a,C,dx,fs,ex,ea,c,n,l,q2⟩:=O;subst ex;obtain rfl:ov=qb6 a:=rx;exact g6 Y ea c n l ry λs3 I3=>⟨σ,_,I3,q2⟩
theorem qx{op:qq2}{rd:V->V->Hp->VK->Prop}(Z:PE X o ta)(hv:PE X value tv)(Y:InOp X op rd):PS X (.AugAssign (.Attribute o f tpos) op value pos) (wU X.K ta tv rd f):=by
 intro J0 s σ H D I h;refine wpAny_AugAssign_AttributeAny (thn (Z J0 s σ H _ I h) λov s1 U=>?_);have⟨x,H1,I1,rx,a,C,dx,fs,v,ex,ea,c,n,l,q⟩:=U;subst ex;obtain rfl:ov=qb6 a:=rx;refine gZ I1 ea c n l λu s2 I2 ru=>thn (hv J0 s2 σ H1 _ I2 q) λw3 s3 ⟨y,H2,I3,ry,q3⟩=>thn (Y J0 s3 σ H2 v y u w3 _ I3 ru ry q3) λw4 s4 O=>?_
 have⟨z,H3,I4,rz,dx',fs',W,l',q4⟩:=O;exact g6 I4 W c n l' rz λs5 I5=>⟨σ,_,I5,q4⟩
theorem zu{pl:Sem Bool}{apos:Pos}{args:η J8}{s:qa7}(he:PE X e te)(I:Inv X J0 σ H s)
 (h:te σ H λx H1=>∃a C dx fs g,x=.ref a/\H1 a=ς (.ins C dx fs)/\Cls X.K C/\Meth X.K C m g/\fs.lookup m=ψ∧
 ∀s1,Inv X J0 σ H1 s1->wpAny (model X.prog X.w) X.A (zd0 pos (.ref g) [.ref a] (qi3 pos (qb3 args X.env)) (qp6 pos (qi9 [] X.env))) Q X.xe s1)
 (Z:eval (.Call (.Attribute e m apos) args [] pos) X.env=(do
 let ov <- eval e X.env
 qx8 apos.atName
 let (f,first) <- qo5 [ov] (qw2 ov m pl)
 zd0 pos f first (qi3 pos (qb3 args X.env)) (qp6 pos (qi9 [] X.env)))) :
  wpAny (model X.prog X.w) X.A (eval (.Call (.Attribute e m apos) args [] pos) X.env) Q X.xe s:=by
 refine xT9 (pl:=pl) (thn (he J0 s σ H _ I h) λu s1 O=>?_) Z;have⟨x,H1,U,Y,a,C,dx,fs,g,ex,ea,c,k,l,q⟩:=O;subst ex;obtain rfl:u=qb6 a:=Y;exact dJ U ea c k l (q s1 U)
end
section
variable{X:Cx}{J0:η (J4×Obj)}{σ:St}{H:Hp}{s:qa7}{A:qk4}{E Q:Value->qa7->Prop}{c:Value}{b:Bool}
inductive TyOf(K:xA9)(H:Hp):V->Value->Prop where
 |non:TyOf K H .non (.type "NoneType")
 |bl (x:Bool):TyOf K H (.bl x) (.type "bool")
 |int (i:Int):TyOf K H (.int i) (.type "int")
 |str (x:Str):TyOf K H (.str x) (.type "str")
 |flt (x:UInt64):TyOf K H (.flt x) (.type "float")
 |e {a:J4} {xs:List V} (e:H a=ς (.e xs)):TyOf K H (.ref a) (.type "list")
 |frz {a:J4} {o:Obj} {xs:List V} (e:H a=ς (.frz o (.e xs))):TyOf K H (.ref a) (.type "list")
 |t {a:J4} {xs:List V} (e:H a=ς (.t xs)):TyOf K H (.ref a) (.type "tuple")
 |dK {a:J4} {J1:List (Key×V)} (e:H a=ς (.dK J1)):TyOf K H (.ref a) (.type "dict")
 |dT {a:J4} {J1:List (List Key×V)} (e:H a=ς (.dT J1)):TyOf K H (.ref a) (.type "dict")
 | ins {a C dx:J4} {fs:List (Str×V)} (e:H a=ς (.ins C dx fs)) (cl:Cls K C) (ha:xB9 K (.ref C) "__class__"=ς (ς (.builtin "object.__class__")))
     (hn:PySem.W.specialIn K (.builtin "object.__class__") "__get__"=ς (ς (.builtin "getset_descriptor.__get__"))) (htk:PySem.W.takesIn K (.builtin "object.__class__")=ς θ)
     (hm:PySem.W.mroIn K C (.type "object")=ς θ):TyOf K H (.ref a) (.ref C)
theorem dv {x:V} {t:Value} (I:Inv X J0 σ H s) (U:RelV x u) (ty:TyOf X.K H x t) (e:xI9 X.K t c=ς b) (h:∀ tk,Q (.bool b) {s with toks:=tk}) :
  wpAny (model X.prog X.w) A (call (.builtin "isinstance") [u,c]) Q E s:=by
 cases ty with
 |non=>cases (show u=qh0 from U);exact xC9 PySem.W.kitx_none I.kIn ql6 e (λz=>nomatch z) h
 |bl y=>cases (show u=qr5 y from U);exact xC9 PySem.W.kitx_bool I.kIn ql6 e (λz=>nomatch z) h
 |int i=>have⟨t,q⟩:=(show ∃t,u=zd7 i t from U);cases q;exact xC9 PySem.W.kitx_int I.kIn ql6 e (λz=>nomatch z) h
 |str y=>have⟨t,q⟩:=(show ∃t,u=zd8 y t from U);cases q;exact xC9 PySem.W.kitx_str I.kIn ql6 e (λz=>nomatch z) h
 |flt y=>have⟨t,q⟩:=(show ∃t,u=Value.float y t from U);cases q;exact xC9 PySem.W.kitx_float I.kIn ql6 e (λz=>nomatch z) h
 |@e a xs Y=>cases (show u=qb6 a from U);have⟨_,_,n,_,h1⟩:=(show ObjOk X.prog X.w H s.heap a (.e xs)from I.hok a _ Y);exact xC9 xU9 I.kIn ⟨_,h1,rfl⟩ e (λz=>nomatch z) h
 |@frz a ob xs Y=>cases (show u=qb6 a from U);have⟨_,_,_,n,_,h1⟩:=(show ObjOk X.prog X.w H s.heap a (.frz ob (.e xs))from I.hok a _ Y);exact xC9 xU9 I.kIn ⟨_,h1,rfl⟩ e (λz=>nomatch z) h
 |@t a xs Y=>cases (show u=qb6 a from U);have⟨_,_,_,p⟩:=(show ObjOk X.prog X.w H s.heap a (.t xs)from I.hok a _ Y);have⟨o,h1,h2,_⟩:=p.1;exact xC9 PySem.W.kitx_tuple I.kIn ⟨o,h1,h2⟩ e (λz=>nomatch z) h
 |@dK a J1 Y=>cases (show u=qb6 a from U);have⟨_,_,vs,_,p⟩:=(show ObjOk X.prog X.w H s.heap a (.dK J1)from I.hok a _ Y);have⟨o,es,ep,h1,h2,_⟩:=p;exact xC9 xM9 I.kIn ⟨o,h1,h2.1⟩ e (λz=>nomatch z) h
 |@dT a J1 Y=>cases (show u=qb6 a from U);have⟨_,_,xs,_,o,es,ep,h1,h2,_⟩:=(show ObjOk X.prog X.w H s.heap a (.dT J1)from I.hok a _ Y);exact xC9 xM9 I.kIn ⟨o,h1,h2.1⟩ e (λz=>nomatch z) h
 |@ins a C dx fs Y cl ha hn Z hm=>cases (show u=qb6 a from U);have⟨mA,O,_⟩:=gw I.hok Y;have⟨od,J,_⟩:=O.look;exact xC9 (PySem.W.kitx_own (cl.get _) cl.hd ha hn Z hm) I.kIn J e (λz=>nomatch z) h
end
structure Room(k:Nat)(A:qk4):Prop where
 hd:A.handled=ψ
 dp:A.depth+3*k+5<recursionLimit
 un:A.units+16*k+200<cLine
theorem Room.mono{k:Nat}(r:Room k A)(h:j<=k):Room j A:=⟨r.hd,by have:=r.dp;lia,by have:=r.un;lia⟩
theorem Room.deeper{k:Nat}(r:Room (k+1) A)(env:Env):Room k (A.deeper env):=⟨r.hd,by have:=r.dp;show A.depth+1+3*k+5<_;lia,by have:=r.un;show A.units+3+16*k+200<_;lia⟩
theorem mP:(A.under (.builtin "type.__call__" ⟨.ref C::us,kw⟩)).depth=A.depth+1:=by first|rfl|simp[zf1,Code.weight,Code.isCreation,Code.isGuard,Code.isCaller,Code.frames,zf2,guardIds]
theorem mQ:(A.under (.builtin "type.__call__" ⟨.ref C::us,kw⟩)).units=A.units+1:=by first|rfl|simp[zf1,Code.cUnits,Code.frames,zf2]
theorem Room.make{k:Nat}(r:Room (k+1) A)(C:J4)(us:η Value)(kw:η (Str×Value)):Room k (A.under (.builtin "type.__call__" ⟨.ref C::us,kw⟩)):=⟨r.hd,by have:=r.dp;rw[mP];lia,by have:=r.un;rw[mQ];lia⟩
theorem Room.depth{k:Nat}(r:Room k A):A.depth<recursionLimit:=by have:=r.dp;lia
theorem Room.units{k:Nat}(r:Room k A):A.units+64<cLine:=by have:=r.un;lia
def mR:TA:=λ_ H Q=>Q [] H
def DZ(ta:TE)(tr:TA):TA:=λσ H Q=>ta σ H λx H1=>tr σ H1 λxs H2=>Q (x::xs) H2
section
variable{X:Cx}{e:J8}{es:η J8}{te:TE}{t:TA}{pos:Pos}
theorem ck:PA X [] mR:=λ_ _ _ _ H Q I h=>Calls.spliced_nil ⟨[],H,I,.nil,h⟩
theorem bf(W:PE X e te)(hr:PA X es t)(hs:qb3 (e::es) X.env=(ξ,eval e X.env)::qb3 es X.env:=by rfl):PA X (e::es) (DZ te t):=by intro pos J0 s σ H Q I h;rw[hs];show wpAny _ _ (spliced ((ξ,eval e X.env)::qi3 pos (qb3 es X.env))) _ _ s;refine qx1 (thn (W J0 s σ H _ I h) λu s1 U=>?_);have⟨x,H1,Y,Z,q1⟩:=U;exact thn (hr pos J0 s1 σ H1 _ Y q1) λus s2 O=>by have⟨xs,H2,I2,r2,q2⟩:=O;exact⟨x::xs,H2,I2,.cons Z r2,q2⟩
def tTup(t:TA):TE:=λσ H Q=>t σ H λxs H1=>xs.length<=qa5/\∀p,H1 p=ψ->Q (.ref p) (upd H1 p (.t xs))
def tLst(t:TA):TE:=λσ H Q=>t σ H λxs H1=>xs.length<=qa5/\∀p,H1 p=ψ->Q (.ref p) (upd H1 p (.e xs))
theorem A8{x1}(h:PA X es t):PE X (.Tuple es x1 pos) (tTup t):=by intro J0 s σ H Q I W;refine wpAny_Tuple_spliced (thn (h pos J0 s σ H _ I W) λus s1 ⟨xs,H1,O,r,z,q⟩=>⟨by rw[<- r.length];exact z,?_⟩);have U:H1 s1.heap.objs.size=ψ:=O.hok.fresh (nL _);refine⟨.ref s1.heap.objs.size,upd H1 s1.heap.objs.size (.t xs),O.laid (t':=s1.toks) (λb u e=>gP _ e) (nL _) ?_,rfl,q _ U⟩;exact⟨z,us,r,.new _ _⟩
theorem A9(h:PA X es t):PE X (.List es pos) (tLst t):=by intro J0 s σ H Q I W;refine wpAny_List_spliced (thn (h pos J0 s σ H _ I W) λus s1 ⟨xs,H1,O,r,z,q⟩=>⟨by rw[<- r.length];exact z,?_⟩);have U:H1 s1.heap.objs.size=ψ:=O.hok.fresh (nL _);refine⟨.ref s1.heap.objs.size,upd H1 s1.heap.objs.size (.e xs),O.laid (t':=s1.toks) (λb u e=>gP _ e) (nL _) ?_,rfl,q _ U⟩;exact⟨z,us,0,r,qc2 _ rfl⟩
end
abbrev Sp:=η V->Hp->VK->XK->Prop
abbrev CXT:=η Env->Hp->qa7->XK->Value->qa7->Prop
structure Env0(P:qe3)(w:J5)(K:xA9)(mg:Str->Option Value)(base:Heap)(A:qk4)(outer:List Env)(s:qa7)(H:Hp):Prop where
 frames:A.frames=ς outer
 mod:Mod K mg base
 bs:∀b o,base.get? b=ς o->s.heap.get? b=ς o/\H b=ψ
 bsz:base.objs.size<=s.heap.objs.size
 funs:s.heap.FunFrames base outer
 frf:∀b∈frs outer,H b=ψ
 hok:HOk P w H s.heap
 bare:zb5 s.gens
 tb:∀p∈lw K,H p.1=ς (.ctab p.2)
def CE(outer:η Env)(P:qe3)(w:J5)(H:Hp)(s:qa7)(Q:VK)(u:Value)(s':qa7):Prop:=∃v H',s'.os=s.os/\zb5 s'.gens/\Un (frs outer) [] H H' s.heap s'.heap/\HOk P w H' s'.heap/\RelV v u/\Q v H'
def CR(CX:CXT)(outer:η Env)(P:qe3)(w:J5)(H:Hp)(s:qa7)(Q:VK)(E:XK)(r:Result)(s':qa7):Prop:=
 match r with
 |.ok (.ret u)=>CE outer P w H s Q u s'
 |.ok _=>False
 |.error e=>CX outer H s E e s'
structure FnOk(P:qe3)(w:J5)(K:xA9)(mg:Str->Option Value)(base:Heap)(CX:CXT)(k:Nat)(f:J4)(fd:qu0)(ps:List Str)(sp:Sp):Prop where
 len:∀vs H Q E,sp vs H Q E->vs.length=ps.length
 run:∀(A:qk4)(outer:List Env)(s:qa7)(H:Hp)(args:Args)(us:List Value)(vs:List V)(Q:VK)(E:XK),Room k A->Env0 P w K mg base A outer s H->BindsTo s fd args (ps.zip us)->Vals vs us->sp vs H Q E→
  qu7 (model P w) A (.call (.ref f) args) (CR CX outer P w H s Q E) s
variable{mg:Str->ζ Value}{base:Heap}{CX:CXT}{fd:qu0}{ps:η Str}{sp:Sp}
theorem FnOk.mono {w:J5} {k:Nat} {f:J4} (F:FnOk P w K mg base CX j f fd ps sp) (h:j<=k) :
  FnOk P w K mg base CX k f fd ps sp:=⟨F.len,λA outer s H args us vs Q E O=>F.run A outer s H args us vs Q E (O.mono h)⟩
theorem FnOk.imp{w:J5}{k:Nat}{f:J4}{O:Sp}(F:FnOk P w K mg base CX k f fd ps sp)
 (h:∀vs H Q E,O vs H Q E->sp vs H Q E):FnOk P w K mg base CX k f fd ps O:=
 ⟨λvs H Q E q=>F.len vs H Q E (h _ _ _ _ q),λA outer s H args us vs Q E Y he hb W U=>F.run A outer s H args us vs Q E Y he hb W (h _ _ _ _ U)⟩
variable{outer:η Env}
theorem Env0.make {w:J5} {s:qa7} (e:Env0 P w K mg base A outer s H) (C:J4) (us:η Value) (kw:η (Str×Value)) :
  Env0 P w K mg base (A.under (.builtin "type.__call__" ⟨.ref C::us,kw⟩)) outer s H:=⟨by first|exact e.frames|(simpa[zf1,Code.envs,zf2,pushEnvs] using e.frames),e.mod,e.bs,e.bsz,e.funs,e.frf,e.hok,e.bare,e.tb⟩
section
variable{X:Cx}{J0:η (J4×Obj)}{σ:St}{H:Hp}{s s':qa7}
theorem Inv.env0(I:Inv X J0 σ H s):Env0 X.prog X.w X.K X.mg X.base X.A X.stack s H:=⟨I.ok.frames,I.ok.mod,I.bs,qd7 I.ok.bsz I.sz,I.stack,I.stkFree,I.hok,I.bare,λp hp=>I.base.cts _ _ (I.ok.tb p hp)⟩
theorem Inv.after{Q:VK}(I:Inv X J0 σ H s)(h:CE X.stack X.prog X.w H s Q u s'):EP X J0 σ Q u s':=by have⟨v,H',os,O,un,W,r,q⟩:=h;have⟨Y,g,d,t,U⟩:=s';obtain rfl:U=s.os:=os;exact⟨v,H',I.call (h':=Y) (g':=g) (d':=d) (t':=t) (ch:=[]) un W O (λb z=>absurd z Ξ),r,q⟩
end
def i7(sp:Sp)(dvs:η V)(E:XK)(t:TA):TE:=λσ H Q=>t σ H λvs H1=>sp (vs++dvs) H1 Q E
def sQ(C:J4)(m:Str)(sp:Sp)(dvs:η V)(E:XK)(ta:TE)(t:TA):TE:=λσ H Q=>ta σ H λx H1=>∃a dx fs,x=.ref a/\H1 a=ς (.ins C dx fs)/\fs.lookup m=ψ∧t σ H1 λvs H2=>sp (x::(vs++dvs)) H2 Q E
def sR(C:J4)(sp:Sp)(dvs:η V)(E:XK)(t:TA):TE:=λσ H Q=>t σ H λvs H1=>∀x dx,H1 x=ψ->H1 dx=ψ->dx≠x→
 sp (.ref x::(vs++dvs)) (upd (upd H1 dx (.own x)) x (.ins C dx [])) (λv H2=>v=.non/\Q (.ref x) H2) E
def Binds(K:xA9)(fd:qu0)(ps:η Str)(ds:η Value):Prop:=∀(s:qa7)(us:η Value),K.In s.heap->(us++ds).length=ps.length->BindsTo s fd ⟨us,[]⟩ (ps.zip (us++ds))
theorem Binds.all(h:∀us:η Value,us.length=ps.length->zg0 fd ⟨us,[]⟩=pure (ps.zip us)):Binds K fd ps []:=λs us _ hl=>by rw[qe5]at hl ⊢;exact .of_eq (h us hl)
def cm(CX:CXT)(X:Cx)(E:XK):Prop:=∀(J0:η (J4×Obj))(σ:St)(H:Hp)(s:qa7)(e:Value)(s':qa7),Inv X J0 σ H s->CX X.stack H s E e s'->X.xe e s'
variable{vs:η V}
section
variable{X:Cx}{CX:CXT}{k:Nat}{f C:J4}{fd:qu0}{ps:η Str}{sp:Sp}{dvs:η V}{ds:η Value}{E:XK}{x m:Str}{p pos apos:Pos}{e o:J8}{es:η J8}{ta:TE}{t:TA}
omit x in
theorem jS{s:qa7}{Q:VK}(F:FnOk X.prog X.w X.K X.mg X.base CX k f fd ps sp)(Y:Room k X.A)(hb:Binds X.K fd ps ds)(Z:Vals dvs ds)(W:cm CX X E)
 (I:Inv X J0 σ H s) (r:Vals vs us) (h:sp (vs++dvs) H Q E):wpAny (model X.prog X.w) X.A (call (.ref f) us) (EP X J0 σ Q) X.xe s:=by
 have U:Vals (vs++dvs) (us++ds):=r.append Z;have hl:(us++ds).length=ps.length:=by rw[<- U.length];exact F.len _ _ _ _ h
 refine wpAny_call (zb9 (F.run X.A X.stack s H ⟨us,[]⟩ (us++ds) (vs++dvs) Q E Y I.env0 (hb s us I.kIn hl) U h) λr s' O=>?_);cases r with
 |error e=>exact W J0 σ H s e s' I O
 |ok fl=>
  cases fl with
  |ret u=>exact I.after O
  |next=>exact qk9 O
  |brk=>exact qk9 O
  |cont=>exact qk9 O
theorem wV (F:FnOk X.prog X.w X.K X.mg X.base CX k f fd ps sp) (hr:Room k X.A) (hg:Gl X x) (hm:X.mg x=ς (.ref f)) (hk:xF9 X.K (.ref f)=θ) (hb:Binds X.K fd ps ds) (hd:Vals dvs ds) (hx:cm CX X E)
  (Z:PA X (e::es) t) (O:(x==("__debug__":Str))=ξ:=by decide) (he:qb3 (e::es) X.env=(ξ,eval e X.env)::qb3 es X.env:=by rfl) (U:(qi3 pos (qb3 es X.env)).any (·.1)=ξ:=by rfl) :
  PE X (.Call (.Name x p) (e::es) [] pos) (i7 sp dvs E t):=by
 intro J0 s σ H Q I h;refine ql9 (eh I hg hm ?_ O);refine xV9 (h₀:=X.base) I.ok.mod.kin hk (thn (Z pos J0 s σ H _ I h) λus s1 ⟨vs,H1,Y,r,q⟩=>⟨Y.kIn,?_⟩) he U;exact jS F hr hb hd hx Y r q
theorem sS (F:FnOk X.prog X.w X.K X.mg X.base CX k f fd ps sp) (hr:Room k X.A) (Y:Gl X x) (hm:X.mg x=ς (.ref f)) (Z:xF9 X.K (.ref f)=θ) (hb:Binds X.K fd ps ds) (U:Vals dvs ds) (hx:cm CX X E)
  (O:(x==("__debug__":Str))=ξ:=by decide):PE X (.Call (.Name x p) [] [] pos) (i7 sp dvs E mR):=by
 intro J0 s σ H Q I h;refine ql9 (eh I Y hm ?_ O);exact xW9 I.kIn Z (jS (us:=[]) F hr hb U hx I .nil h)
theorem wW {pl:Sem Bool} (he:PE X o ta) (c:Cls X.K C) (hm:Meth X.K C m f) (F:FnOk X.prog X.w X.K X.mg X.base CX k f fd ps sp) (hr:Room k X.A) (hb:Binds X.K fd ps ds) (hd:Vals dvs ds) (hx:cm CX X E) (ha:PA X (e::es) t)
  (Y:qb3 (e::es) X.env=(ξ,eval e X.env)::qb3 es X.env:=by rfl) (U:(qi3 pos (qb3 es X.env)).any (·.1)=ξ:=by rfl)
  (ht:eval (.Call (.Attribute o m apos) (e::es) [] pos) X.env=(do
   let ov <- eval o X.env
   qx8 apos.atName
   let (f,first) <- qo5 [ov] (qw2 ov m pl)
   zd0 pos f first (qi3 pos (qb3 (e::es) X.env)) (qp6 pos (qi9 [] X.env))):=by rfl) :
  PE X (.Call (.Attribute o m apos) (e::es) [] pos) (sQ C m sp dvs E ta t):=by
 intro J0 s σ H Q I h;refine xT9 (pl:=pl) (thn (he J0 s σ H _ I h) λu s1 O=>?_) ht;have⟨x,H1,Z,rx,a,dx,fs,ex,ea,l,q⟩:=O;subst ex;obtain rfl:u=qb6 a:=rx;refine dJ Z ea c hm l ?_;refine xV9 (first:=[.ref a]) (h₀:=X.base) I.ok.mod.kin hm.kp (thn (ha pos J0 s1 σ H1 _ Z q) λus s2 ⟨vs,H2,I2,r,q2⟩=>⟨I2.kIn,?_⟩) Y U;exact jS (us:=.ref a::us) (vs:=.ref a::vs) F hr hb hd hx I2 (.cons rfl r) q2
theorem sT {pl:Sem Bool} (he:PE X o ta) (c:Cls X.K C) (hm:Meth X.K C m f) (F:FnOk X.prog X.w X.K X.mg X.base CX k f fd ps sp) (hr:Room k X.A) (hb:Binds X.K fd ps ds) (Z:Vals dvs ds) (Y:cm CX X E)
  (ht:eval (.Call (.Attribute o m apos) [] [] pos) X.env=(do
   let ov <- eval o X.env
   qx8 apos.atName
   let (f,first) <- qo5 [ov] (qw2 ov m pl)
   zd0 pos f first (qi3 pos (qb3 [] X.env)) (qp6 pos (qi9 [] X.env))):=by rfl) :
  PE X (.Call (.Attribute o m apos) [] [] pos) (sQ C m sp dvs E ta mR):=by
 intro J0 s σ H Q I h;refine xT9 (pl:=pl) (thn (he J0 s σ H _ I h) λu s1 O=>?_) ht;have⟨x,H1,U,rx,a,dx,fs,ex,ea,l,q⟩:=O;subst ex;obtain rfl:u=qb6 a:=rx;refine dJ U ea c hm l ?_;exact xW9 (first:=[.ref a]) U.kIn hm.kp (jS (us:=[.ref a]) (vs:=[.ref a]) F hr hb Z Y U (.cons rfl .nil) q)
structure Mk(K:xA9)(C f:J4):Prop where
 makes:xS9 K C=θ
 init:xB9 K (.ref C) "__init__"=ς (ς (.ref f))
 fn:xH9 K (.ref f)=θ
 kp:xF9 K (.ref C)=θ
omit x in
theorem lx{s:qa7}{Q:VK}(M:Mk X.K C f)(F:FnOk X.prog X.w X.K X.mg X.base CX k f fd ps sp)(hr:Room (k+1) X.A)(hb:Binds X.K fd ps ds)(hd:Vals dvs ds)
 (hx:cm CX X E) (I:Inv X J0 σ H s) (r:Vals vs us)
 (h:∀x dx,H x=ψ->H dx=ψ->dx≠x->sp (.ref x::(vs++dvs)) (upd (upd H dx (.own x)) x (.ins C dx [])) (λv H2=>v=.non/\Q (.ref x) H2) E) :
  wpAny (model X.prog X.w) X.A (call (.ref C) us) (EP X J0 σ Q) X.xe s:=by
 have W:=h (s.heap.objs.size+1) s.heap.objs.size (I.hok.fresh (qn7 _)) (I.hok.fresh (nL _)) (qc5 (qq3 _));have U:=Inv.made (C:=C) I;have Y:Vals (V.ref (s.heap.objs.size+1)::(vs++dvs)) (qb6 (s.heap.objs.size+1)::(us++ds)):=.cons rfl (r.append hd)
 have hl:(qb6 (s.heap.objs.size+1)::us++ds).length=ps.length:=by have e:=Y.length;rw[F.len _ _ _ _ W]at e;exact e.symm
 refine wpAny_call (sP (f:=f) I.kIn M.makes M.init (beq_iff_eq.mp M.fn) (zb9 (F.run _ X.stack _ _ ⟨qb6 (s.heap.objs.size+1)::us,[]⟩ (qb6 (s.heap.objs.size+1)::(us++ds)) _ _ E (hr.make C us [])
  (U.env0.make C us []) (hb _ (qb6 (s.heap.objs.size+1)::us) U.kIn hl) Y W) λr s' O=>?_))
 cases r with
 |error e=>exact hx J0 σ _ _ e s' U O
 |ok fl=>
  cases fl with
  |ret u=>have⟨v,H',I3,rv,ev,Z⟩:=U.after O;subst ev;exact⟨rv,⟨V.ref (s.heap.objs.size+1),H',I3,rfl,Z⟩⟩
  |next=>exact qk9 O
  |brk=>exact qk9 O
  |cont=>exact qk9 O
theorem wX (M:Mk X.K C f) (F:FnOk X.prog X.w X.K X.mg X.base CX k f fd ps sp) (hr:Room (k+1) X.A) (hg:Gl X x) (hm:X.mg x=ς (.ref C)) (hb:Binds X.K fd ps ds) (hd:Vals dvs ds) (hx:cm CX X E)
  (Z:PA X (e::es) t) (O:(x==("__debug__":Str))=ξ:=by decide) (he:qb3 (e::es) X.env=(ξ,eval e X.env)::qb3 es X.env:=by rfl) (U:(qi3 pos (qb3 es X.env)).any (·.1)=ξ:=by rfl) :
  PE X (.Call (.Name x p) (e::es) [] pos) (sR C sp dvs E t):=by
 intro J0 s σ H Q I h;refine ql9 (eh I hg hm ?_ O);refine xV9 (h₀:=X.base) I.ok.mod.kin M.kp (thn (Z pos J0 s σ H _ I h) λus s1 ⟨vs,H1,Y,r,q⟩=>⟨Y.kIn,?_⟩) he U;exact lx M F hr hb hd hx Y r q
theorem sU (M:Mk X.K C f) (F:FnOk X.prog X.w X.K X.mg X.base CX k f fd ps sp) (hr:Room (k+1) X.A) (Y:Gl X x) (hm:X.mg x=ς (.ref C)) (hb:Binds X.K fd ps ds) (U:Vals dvs ds) (Z:cm CX X E)
  (O:(x==("__debug__":Str))=ξ:=by decide):PE X (.Call (.Name x p) [] [] pos) (sR C sp dvs E mR):=by
 intro J0 s σ H Q I h;refine ql9 (eh I Y hm ?_ O);exact xW9 I.kIn M.kp (lx (us:=[]) M F hr hb U Z I .nil h)
end
structure FnScope(N P:List Str)(sc:J9):Prop where
 kind:sc.kind=.function
 co:sc.isCoroutine=ξ
 gen:sc.isGenerator=ξ
 nd:N.Nodup
 pre:N.take P.length=P
 par:∀x∈P,sc.names.lookup x=ς .local\/sc.names.lookup x=ς .cell
 nofree:∀y∈sc.names,y.2≠.free
variable{kindOf:Str->ζ qx2}
theorem i8{x:Str}:∀{binds:η (Str×Value)}{m:Str->ζ Value},(∀v,(x,v)∉binds)->bindL kindOf binds m x=m x
 |[],_,_=>rfl
 |(n,v)::r,m,h=>by
  unfold bindL;rw[i8 λw hw=>h w (qe7 _ hw)];split
  .have:x≠n:=by rintro rfl;exact h v qk0
   simp[this]
  .rfl
theorem i9{x:Str}:∀{binds:η (Str×Value)}{m:Str->ζ Value},(∀v,(x,v)∉binds)->bindC kindOf binds m x=m x
 |[],_,_=>rfl
 |(n,v)::r,m,h=>by
  unfold bindC;rw[i9 λw hw=>h w (qe7 _ hw)];split
  .rfl
  .have:x≠n:=by rintro rfl;exact h v qk0
   simp[this]
theorem ja {x:Str} {v:Value}:∀ {P:η Str} {vs:η Value} {i:Nat} {m:Str->ζ Value},P.Nodup->P[i]?=ς x->vs[i]?=ς v->kindOf x=ς .local→
  bindL kindOf (P.zip vs) m x=ς v
 |[],_,_,_,_,h,_,_=>by simp at h
 |_::_,[],_,_,_,_,h,_=>by simp at h
 |p::P,w::vs,0,m,nd,h1,h2,hk=>by
  simp at h1 h2;subst h1;subst h2
  show bindL kindOf ((p,w)::P.zip vs) m p=_;unfold bindL;rw[i8 λv hv=>(qc6.mp nd).1 (zc0 hv).1,if_pos hk];simp
 |p::P,w::vs,i+1,m,nd,h1,h2,hk=>by show bindL kindOf ((p,w)::P.zip vs) m x=_;unfold bindL;exact ja (i:=i) (qc6.mp nd).2 ‹h1› ‹h2› hk
theorem jb {x:Str} {v:Value}:∀ {P:η Str} {vs:η Value} {i:Nat} {m:Str->ζ Value},P.Nodup->P[i]?=ς x->vs[i]?=ς v->kindOf x≠ς .local→
  bindC kindOf (P.zip vs) m x=ς v
 |[],_,_,_,_,h,_,_=>by simp at h
 |_::_,[],_,_,_,_,h,_=>by simp at h
 |p::P,w::vs,0,m,nd,h1,h2,hk=>by
  simp at h1 h2;subst h1;subst h2
  show bindC kindOf ((p,w)::P.zip vs) m p=_;unfold bindC;rw[i9 λv hv=>(qc6.mp nd).1 (zc0 hv).1,if_neg hk];simp
 |p::P,w::vs,i+1,m,nd,h1,h2,hk=>by show bindC kindOf ((p,w)::P.zip vs) m x=_;unfold bindC;exact jb (i:=i) (qc6.mp nd).2 ‹h1› ‹h2› hk
noncomputable def dE(N:η Str)(vs:η V):St:=vs.map ς++qb1 (N.length-vs.length) ψ
noncomputable def qy(CX:CXT)(P:qe3)(w:J5)(K:xA9)(mg:Str->ζ Value)(base:Heap)(N:η Str)(qual:Str)(scope:J9)(f:J4)(cd:Value)(A:qk4)(outer:η Env)(s:qa7)(H:Hp)(E:XK):Cx where
 prog:=P
 w:=w
 K:=K
 mg:=mg
 base:=base
 A:=A.deeper (zg3 qual scope s.heap.objs.size f cd)
 N:=N
 s₀:=s
 H₀:=H
 env:=zg3 qual scope s.heap.objs.size f cd
 outer:=outer
 stack:=zg3 qual scope s.heap.objs.size f cd::outer
 ex:=[]
 calm:=true
 fn:=λ_=>θ
 pn:=[]
 xe:=λe s'=>wpAny (model P w) (A.deeper (zg3 qual scope s.heap.objs.size f cd)) (leaving (zg3 qual scope s.heap.objs.size f cd) e) (λ_ O=>CX outer H s E e O) (λU O=>CX outer H s E U O) s'
theorem ly{sc:J9}{n:Nat}{x:Str}(h:sc.names.lookup x=ς .cell):∃c,(cellsFrom n sc.names []).lookup x=ς c:=by have q:=PySem.W.cellsFrom_some sc.names n [] (.inl h);exact qr7.mp q
variable{qual:Str}{scope:J9}
theorem qz{w:J5}{f:J4}{cd:Value}{s s1:qa7}{E:XK} 
 (S:FnScope N ps scope) (hd:A.handled=ψ) (O:Env0 P w K mg base A outer s H) (hl:vs.length=ps.length) (r:Vals vs us)
 (x:InCallC s s.heap.objs.size (bindL (zg3 qual scope s.heap.objs.size f cd).kindOf (ps.zip us) λ_=>ψ) (cellsFrom (s.heap.objs.size+1) scope.names []) (bindC (zg3 qual scope s.heap.objs.size f cd).kindOf (ps.zip us) λ_=>ψ) s1) :
  Inv (qy CX P w K mg base N qual scope f cd A outer s H E) [] (dE N vs) H s1:=by
 have hpl:ps.length<=N.length:=by have:=congrArg qj0 S.pre;rw[qq4]at this;lia
 have⟨h1,tk,rfl,hk⟩:=x.done;have U:∀b:J4,b∉(qy CX P w K mg base N qual scope f cd A outer s H E).ex:=λb z=>absurd (show b∈([]:η J4)from z) Ξ
 refine⟨⟨O.mod,S.kind,rfl,rfl,nL _,λy z c h1 h2=>?_,λy W=>?_,λy c _ h=>?_,λ_=>hd,qk4.frames_deeper O.frames,.inr ⟨rfl,rfl⟩,λb z=>absurd z (U b),O.bs,O.bsz,λb _ _=>U b,λb z=>absurd z (U b),O.funs,O.frf,O.tb⟩,rfl,O.bare,Un.kept hk,⟨_,x.toInCall.ns,λi y v h1 h2 h3=>?_⟩,λy c h=>⟨_,x.cell y c h⟩,O.hok.fresh (qq9 _),λy c h=>?_,λp hp=>absurd (show p∈([]:η (J4×Obj))from hp) Ξ,O.hok.kept hk,?_⟩
 .exact name_of_addr x.apart (PySem.mem_of_lookup h1) (PySem.mem_of_lookup h2)
 .have W:scope.names.lookup y=ς .cell\/scope.names.lookup y=ς .free:=W;rcases W with W|W
  .exact ly W
  .exact absurd rfl (S.nofree _ (PySem.mem_of_lookup W))
 .exact qr6 (x.above y c (PySem.mem_of_lookup h))
 .have hi:i<vs.length:=by
   unfold dE at h2;by_cases hi:i<vs.length
   .exact hi
   .rw[qf0 ‹hi›]at h2;rw[qs5]at h2;split at h2<;>cases h2
  have ha:vs[i]?=ς v:=by
   unfold dE at h2;rw[qj2 ‹hi›,qa8]at h2;cases e:vs[i]? with
   |none=>rw[e]at h2;cases h2
   |some a=>rw[e]at h2;cases h2;rfl
  have⟨u,Z,rv⟩:=r.get ha
  have hp:ps[i]?=ς y:=by rw[<- S.pre,qr8 Θ];exact h1
  have Y:ps.Nodup:=by rw[<- S.pre];exact S.nd.sublist (qp7 _ _)
  refine⟨u,rv,?_⟩;rcases S.par y (qa4 hp)with k|k
  .exact .inl ⟨k,ja Y hp Z k⟩
  .have⟨c,e⟩:=ly (n:=s.heap.objs.size+1) k;refine .inr ⟨.inl k,c,e,?_⟩;have q:=x.cell y c e;rw[jb Y hp Z (by show scope.names.lookup y≠_;rw[k];decide)]at q;exact q
 .exact O.hok.fresh (qr6 (x.above y c (PySem.mem_of_lookup h)))
 .unfold dE;show _=N.length;rw[qc4,qa6,List.length_replicate];lia
omit x in
theorem D0{w:J5}{k:Nat}{f:J4}{name:Str}{U:Arguments}{dV kV doc pm O ct oc:Value}{an od:ζ J4}
 {osl:Array (ζ Value)} (lk:K.lookup f=ς ⟨oc,od,.func (PySem.W.fnOf name qual U body scope dV kV doc pm an O ct),osl⟩) (hcd:PySem.W.codeIn K O qual=θ) (S:FnScope N ps scope)
 (len:∀vs H Q E,sp vs H Q E->vs.length=ps.length)
 (Z:∀(A:qk4)(outer:η Env)(s:qa7)(H:Hp)(vs:η V)(Q:VK)(E:XK),Room k (A.deeper (zg3 qual scope s.heap.objs.size f O))->sp vs H Q E→
 ∃t,PSs (qy CX P w K mg base N qual scope f O A outer s H E) body t/\t {nx:=λ_ H'=>Q .non H',rt:=Q} (dE N vs) H) :
  FnOk P w K mg base CX (k+1) f (PySem.W.fnOf name qual U body scope dV kV doc pm an O ct) ps sp:=by
 refine⟨len,λA outer s H args us vs Q E hr e0 hb r hsp=>?_⟩;have hl:=len _ _ _ _ hsp;have KX:K.In s.heap:=e0.mod.kin.keeps λb o e=>(e0.bs b o e).1
 have lim:s.heap.NoLimit:=e0.mod.nolimit.keeps λb o e=>(e0.bs b o e).1
 have hkind:∀y∈ps.zip us,scope.names.lookup y.1=ς .local\/(scope.names.lookup y.1=ς .cell/\((cellsFrom (s.heap.objs.size+1) scope.names []).lookup y.1).isSome=θ):=λhq81 hy=>by
  have⟨n,v⟩:=hq81;rcases S.par n (zc0 hy).1 with q|q
  .exact .inl q
  .exact .inr ⟨q,PySem.W.cellsFrom_some _ _ _ (.inl q)⟩
 refine codeAny_call_function hr.depth (KX _ _ lk) rfl S.co S.gen rfl (PySem.W.codeRec_of KX hcd) (hb _ _ _ _ ?_);refine wpAny_newFunctionEnv_cells S.kind hkind λenv he s1 x=>?_
 subst he;refine⟨lim.keeps x.toInCall.keep,codeAny_func ?_⟩;have⟨t,ht,hq⟩:=Z A outer s H vs Q E (hr.deeper _) hsp;have I:Inv (qy CX P w K mg base N qual scope f O A outer s H E) [] (dE N vs) H s1:=qz S hr.hd e0 hl r x;refine qo0 (ht [] s1 (dE N vs) H _ I hq) (λfl s' hs=>?_) λe s' hs=>hs
 have fin:∀{Y:St}{H':Hp}{v:V}{u:Value},Inv (qy CX P w K mg base N qual scope f O A outer s H E) [] Y H' s'->RelV v u->Q v H'->CE outer P w H s Q u s':=λ{Y H' v u} J rv q=>⟨v,H',J.os,J.bare,J.base,J.hok,rv,q⟩
 cases fl with
 |ret u=>have⟨v,Y,H',J,rv,q⟩:=hs;exact fin J rv q
 |next=>have⟨Y,H',J,q⟩:=hs;exact fin (v:=V.non) (u:=qh0) J rfl q
 |brk=>have⟨_,_,_,q⟩:=hs;exact qk9 q
 |cont=>have⟨_,_,_,q⟩:=hs;exact qk9 q
section
variable{X:Cx}{x:Str}{p pos:Pos}{e:J8}{es:η J8}{t:TA}{id T:String}{r:η V->Hp->VK->Prop}
def tCB(r:η V->Hp->VK->Prop)(t:TA):TE:=λσ H Q=>t σ H λvs H1=>r vs H1 Q
theorem sV (hc:CallR X (.builtin id) r) (hg:Gl X x) (hm:X.mg x=ψ) (Z:qg0 x=ς (.builtin id)) (Y:PA X (e::es) t) (hn:x≠"__name__":=by decide) (U:(x==("__debug__":Str))=ξ:=by decide)
  (he:qb3 (e::es) X.env=(ξ,eval e X.env)::qb3 es X.env:=by rfl) (W:(qi3 pos (qb3 es X.env)).any (·.1)=ξ:=by rfl):PE X (.Call (.Name x p) (e::es) [] pos) (tCB r t):=by
 intro J0 s σ H Q I h;refine ql9 (gV I hg hm Z ?_ hn U);exact PyProof.Rows.callWith_builtin1 (thn (Y pos J0 s σ H _ I h) λus s1 O=>by have⟨vs,H1,I1,r1,q1⟩:=O;exact hc J0 s1 σ H1 vs us Q I1 r1 q1) he W
theorem qA (hc:CallR X (.type T) r) (hg:Gl X x) (hm:X.mg x=ψ) (Z:qg0 x=ς (.type T)) (Y:PA X (e::es) t) (hn:x≠"__name__":=by decide) (U:(x==("__debug__":Str))=ξ:=by decide)
  (he:qb3 (e::es) X.env=(ξ,eval e X.env)::qb3 es X.env:=by rfl) (W:(qi3 pos (qb3 es X.env)).any (·.1)=ξ:=by rfl):PE X (.Call (.Name x p) (e::es) [] pos) (tCB r t):=by
 intro J0 s σ H Q I h;refine ql9 (gV I hg hm Z ?_ hn U);exact qo6 (thn (Y pos J0 s σ H _ I h) λus s1 O=>by have⟨vs,H1,I1,r1,q1⟩:=O;exact hc J0 s1 σ H1 vs us Q I1 r1 q1) he W
end
end L2
namespace HT
open PySem PyProof.Rows
variable{Q:Value->qa7->Prop}{vu:Value}{lo hi:ζ Int}
section
variable{prog:qe3}{w:J5}{A:qk4}{E:Value->qa7->Prop}{s:qa7}
theorem FV{t b:J4}{vs ws:η Value}(ht:IsTup s.heap t vs.toArray)(hb:IsTup s.heap b ws.toArray)(hv:vs≠[])
 (h1:ws=[]->Q (.ref t) s) (h2:ws≠[]->Q (.ref s.heap.objs.size) {s with heap:=s.heap.push {cls:=.type "tuple",data:=.seq (vs++ws).toArray}})
 (hsz:vs.length+ws.length<=qa5):wpAny (model prog w) A (qi0 .Add (.ref t) (.ref b)) Q E s:=by
 have⟨⟨cls,dd,data,sl⟩,Z,hc,n,hd⟩:=id ht;have⟨⟨cls2,Y,data2,U⟩,ho2,O,n2,W⟩:=id hb;simp only at hc hd O W;subst hc hd O W;have e:vs.toArray++ws.toArray=(vs++ws).toArray:=by simp
 by_cases hw:ws=[]
 .exact qx3 ⟨_,Z,rfl⟩ ⟨_,ho2,rfl⟩ qu8 qz6 PySem.F.slot_tuple_add PySem.F.entry_tuple_add (PySem.F.args_tuple_add_2 _ _)
   (tuple_addW1 t b vs.toArray ws.toArray n n2 dd Y sl U ‹hv› (by simp[hw])) ⟨Z,ho2,h1 hw⟩
 .refine qx3 ⟨_,Z,rfl⟩ ⟨_,ho2,rfl⟩ qu8 qz6 PySem.F.slot_tuple_add PySem.F.entry_tuple_add (PySem.F.args_tuple_add_2 _ _)
   (tuple_addW2 t b vs.toArray ws.toArray n n2 dd Y sl U ‹hv› ‹hw› (by rw[qb5,qb5];exact hsz)) ⟨Z,ho2,?_⟩
  rw[e];exact h2 hw
def sIx(n d:Nat):ζ Int->Nat
 |none=>d
 |some v=>if v<0 then(v+(n:Int)).toNat else min v.toNat n
theorem FW(n d k:Nat):sIx n d (ς (k:Int))=min k n:=by show(if(k:Int)<0 then((k:Int)+(n:Int)).toNat else min (k:Int).toNat n)=min k n;rw[if_neg Θ,ql0]
theorem Ba(n d:Nat)(U:d<=n)(o:ζ Int):sIx n d o<=n:=by
 cases o with
 |none=>exact U
 |some v=>
  show(if v<0 then(v+(n:Int)).toNat else min v.toNat n)<=n;by_cases O:v<0
  .rw[if_pos O];lia
  .rw[if_neg O];exact Nat.min_le_right _ _
theorem oB(v:Int)(n d:Nat):(if v<0 then max (v+(n:Int)) 0 else min v (n:Int))=((sIx n d (ς v):Nat):Int):=by
 show(if v<0 then max (v+(n:Int)) 0 else min v (n:Int))=(((if v<0 then(v+(n:Int)).toNat else min v.toNat n):Nat):Int);by_cases O:v<0
 .rwa[if_pos O];lia
 .rwa[if_neg O];lia
theorem mT(lo hi:ζ Int)(n:Nat):qq0 lo hi 1 (n:Int)=(((sIx n 0 lo:Nat):Int),((sIx n n hi:Nat):Int)):=by
 have h1:¬ ((1:Int)<0):=by lia
 unfold qq0;rwa[h1,if_false];refine Prod.ext ?_ ?_
 .cases lo with
  |none=>rfl
  |some v=>exact oB v n 0
 .cases hi with
  |none=>rfl
  |some v=>exact oB v n n
theorem mU(i j:Nat):qm7 (i:Int) (j:Int) 1=j-i:=by
 unfold qm7;have h1:(1:Int) > 0:=by lia
 rwa[h1,if_true,Int.ediv_one];split<;>lia
theorem g7{v:Value}{o:ζ Int}{Q:ζ Int->qa7->Prop}(p:zf3 v o)(h:Q o s):wpAny (model prog w) A (qj8.Slice.slicePartIndex v) Q E s:=by
 cases p with
 |none=>exact slicePart_none h
 |int i t=>exact slicePart_int h
theorem fJ{sl:J4}{vl:Value}{n:Nat}{Q:Int×Int×Nat->qa7->Prop}(hs:s.heap.IsSliceOf sl vl vu .none)(pl:zf3 vl lo)(W:zf3 vu hi)
 (h:Q (((sIx n 0 lo:Nat):Int),1,sIx n n hi-sIx n 0 lo) s):wpAny (model prog w) A (qw9 (.ref sl) (pure (n:Int))) Q E s:=by
 have⟨Z,O,Y,U⟩:=id hs;unfold qw9 qj8.Slice.sliceFields;refine wB (wB (qk2 O U (x:=vl) rfl (wB (qk2 O U (x:=vu) rfl (wB (qk2 O U (x:=.none) rfl (qa2 ?_)))))));refine wB (slicePart_none ?_);show wpAny _ _ (if((1:Int)==0)=θ then _ else _) _ _ s;rw[if_neg Ω];refine wB (g7 pl (wB (g7 W (wB (qa2 ?_)))));show wpAny _ _ (match qq0 lo hi 1 (n:Int)with|(lo,hi)=>pure (lo,(1:Int),qm7 lo hi 1)) _ _ s;rw[mT lo hi n];show wpAny _ _ (pure (((sIx n 0 lo:Nat):Int),(1:Int),qm7 ((sIx n 0 lo:Nat):Int) ((sIx n n hi:Nat):Int) 1)) _ _ s;rw[mU];exact qa2 h
theorem sW(xs:Array Value)(i k:Nat):((qc8 k).filterMap λ(m:Nat)=>xs[((i:Int)+(m:Int)*1).toNat]?).toArray=((xs.toList.drop i).take k).toArray:=by
 have e:(λ(m:Nat)=>xs[((i:Int)+(m:Int)*1).toNat]?)=λm=>xs[i+m]?:=by
  funext m;have:((i:Int)+(m:Int)*1).toNat=i+m:=by lia
  rw[this]
 rw[e];have:=pick_run xs i k;rw[List.filterMap_map]at this;have e2:((λx=>xs[x]?) ∘ λx=>i+x)=λm=>xs[i+m]?:=rfl
 rw[e2]at this;rw[this]
theorem oC{t sl:J4}{items:Array Value}{vl:Value}(U:IsTup s.heap t items)(hs:s.heap.IsSliceOf sl vl vu .none)(pl:zf3 vl lo)(pu:zf3 vu hi)
 (hw:¬ (sIx items.size 0 lo=0/\sIx items.size items.size hi=items.size))
 (h:Q (.ref s.heap.objs.size) {s with heap:=s.heap.push {cls:=.type "tuple",data:=.seq ((items.toList.drop (sIx items.size 0 lo)).take (sIx items.size items.size hi-sIx items.size 0 lo)).toArray}})
 (hsz:items.size<=qa5):wpAny (model prog w) A (zg4 (.ref t) (.ref sl)) Q E s:=by
 have O:sizeOk (.seq ((items.toList.drop (sIx items.size 0 lo)).take (sIx items.size items.size hi-sIx items.size 0 lo)).toArray):=by show((items.toList.drop (sIx items.size 0 lo)).take (sIx items.size items.size hi-sIx items.size 0 lo)).toArray.size<=qa5;rw[qb5,qq4,za4,qh5];lia
 have hj:sIx items.size items.size hi<=items.size:=Ba _ _ (nL _) hi;have⟨os,hos,Y,hds⟩:=id hs;have Z:s.TypeIs (.ref sl) "slice":=⟨os,hos,Y⟩;unfold zg4
 try with_reducible refine qj3 ?_
 first|refine wB (qa2 ?_)|skip
 refine wB (wpAny_sequenceKey U.typeIs Ω ?_)
 refine wB (qk6 (name:=qd0 "__getitem__") U.typeIs qn3
  (qf5 qn3 U.typeIs entry_tuple_getitem ?_ (args_tuple_getitem _ _)))
 show wpAny _ _ (qj8.Tuple.tupleItemsOf (.ref t) >>= _) _ _ s;refine wB (tupleItemsOf_ U ?_);refine wB (zc1 Z ?_);rw[if_pos Ω];refine wB (fJ hs pl pu ?_)
 have W:¬ ((((sIx items.size 0 lo:Nat):Int)==0&&(1:Int)==1&&(sIx items.size items.size hi-sIx items.size 0 lo)==items.size)=θ):=by intro q;rw[qa1,qa1]at q;have q1:((sIx items.size 0 lo:Nat):Int)=0:=eq_of_beq q.1.1;have q2:sIx items.size items.size hi-sIx items.size 0 lo=items.size:=eq_of_beq q.2;exact hw ⟨Θ,Θ⟩
 show wpAny _ _ (if(((sIx items.size 0 lo:Nat):Int)==0&&(1:Int)==1&&(sIx items.size items.size hi-sIx items.size 0 lo)==items.size)=θ then _ else _) _ _ s;rw[if_neg W,sW]
 first
  |exact wB (m:=qn4 _) (qf7 (qa2 ⟨_,rfl,qa2 h⟩) O)
  |exact wB (m:=qn4 _) (qf7 (wB (qa2 (qa2 ⟨_,rfl,qa2 h⟩))) O)
  |exact wB (wB (m:=qn4 _) (qf7 (qa2 (qa2 ⟨_,rfl,qa2 h⟩)) O))
  |exact wB (wB (m:=qn4 _) (qf7 (qa2 ⟨_,rfl,qa2 h⟩) O))
end
end HT
namespace L2
open PySem PySem.Spec PyProof.Rows
abbrev TO:=St->Hp->(ζ Int->Hp->Prop)->Prop
def PO(X:Cx)(e:ζ J8)(t:TO):Prop:=
 ∀(J0:η (J4×Obj))(s:qa7)(σ:St)(H:Hp)(Q:ζ Int->Hp->Prop),Inv X J0 σ H s->t σ H Q→
  wpAny (model X.prog X.w) X.A (evalPart e X.env) (λu s'=>∃o H',Inv X J0 σ H' s'/\zf3 u o/\Q o H') X.xe s
def wY:TO:=λ_ H Q=>Q ψ H
def D3(t:TE):TO:=λσ H Q=>t σ H λx H1=>∃i,x=.int i/\Q (ς i) H1
variable{r:V->ζ Int->ζ Int->Hp->VK->Prop}{xs:η V}{us:η Value}
section
variable{X:Cx}{e:J8}{te:TE}{lo hi:ζ J8}{tl th:TO}{pos p2:Pos}
theorem wZ:PO X ψ wY:=by intro J0 s σ H Q I h;rw[evalPart_none];exact qa2 ⟨ψ,H,I,.none,h⟩
theorem w6(h:PE X e te):PO X (ς e) (D3 te):=by
 intro J0 s σ H Q I Z;rw[evalPart_some];refine thn (h J0 s σ H _ I Z) λu s1 O=>?_
 have⟨x,H1,U,W,Y⟩:=O;have⟨i,rfl,q⟩:=Y;have⟨t,rfl⟩:=W;exact⟨ς i,H1,U,.int i t,q⟩
def SlR(X:Cx)(r:V->ζ Int->ζ Int->Hp->VK->Prop):Prop:=
 ∀(J0:η (J4×Obj))(s:qa7)(σ:St)(H:Hp)(x:V)(v vl vu:Value)(lo hi:ζ Int)(sl:J4)(Q:VK),Inv X J0 σ H s->RelV x v->s.heap.IsSliceOf sl vl vu .none->zf3 vl lo->zf3 vu hi->r x lo hi H Q→
  ∃T id,typeLookup (.type T) "__getitem__"=pure (ς (.builtin id))/\s.TypeIs v T/\wpAny (model X.prog X.w) X.A (zg4 v (.ref sl)) (EP X J0 σ Q) X.xe s
theorem SlR.or{W:V->ζ Int->ζ Int->Hp->VK->Prop}(h:SlR X r)(h':SlR X W):SlR X (λx lo hi H Q=>r x lo hi H Q\/W x lo hi H Q):=by
 intro J0 s σ H x v vl vu lo hi sl Q I Y O pl U q;rcases q with q|q
 .exact h J0 s σ H x v vl vu lo hi sl Q I Y O pl U q
 .exact h' J0 s σ H x v vl vu lo hi sl Q I Y O pl U q
def tSl(r:V->ζ Int->ζ Int->Hp->VK->Prop)(te:TE)(tl th:TO):TE:=λσ H Q=>te σ H λx H1=>tl σ H1 λl H2=>th σ H2 λu O=>r x l u O Q
theorem sX(hr:SlR X r)(he:PE X e te)(hl:PO X lo tl)(hu:PO X hi th):PE X (.Subscript e (.Slice lo hi ψ p2) pos) (tSl r te tl th):=by
 intro J0 s σ H Q I h;refine Subscript_ (thn (he J0 s σ H _ I h) λv s1 O=>?_);have⟨x,H1,I1,r1,q1⟩:=O;refine wpAny_Slice (thn (hl J0 s1 σ H1 _ I1 q1) λvl Y ⟨l,H2,I2,pl,q2⟩=>thn (hu J0 Y σ H2 _ I2 q2) λvu s3 U=>?_);have⟨u,W,I3,Z,q3⟩:=U;rw[evalPart_none];refine qa2 ?_;have I4:Inv X J0 σ W {s3 with heap:=s3.heap.push {cls:=.type "slice",data:=.fields #[vl,vu,.none]}}:=I3.kept (t':=s3.toks) λb ob q=>gP _ q
 have⟨T,id,hT,ht,hg⟩:=hr J0 {s3 with heap:=s3.heap.push {cls:=.type "slice",data:=.fields #[vl,vu,.none]}} σ W x v vl vu l u s3.heap.objs.size Q I4 r1 (Heap.IsSliceOf.new ..) pl Z q3;show wpAny (model X.prog X.w) X.A (ze1 e (.Slice lo hi ψ p2) v (.ref s3.heap.objs.size)) (EP X J0 σ Q) X.xe {s3 with heap:=s3.heap.push {cls:=.type "slice",data:=.fields #[vl,vu,.none]}};exact tail_any (ops:=[.ref s3.heap.objs.size,v]) ht hT hg (by with_unfolding_all rfl)
noncomputable def lz(xs:η V)(lo hi:ζ Int):η V:=(xs.drop (HT.sIx xs.length 0 lo)).take (HT.sIx xs.length xs.length hi-HT.sIx xs.length 0 lo)
theorem gf(xs:η V)(lo hi:ζ Int):(lz xs lo hi).length<=xs.length:=by unfold lz;rw[qq4,za4];lia
def rSlT(K:xA9):V->ζ Int->ζ Int->Hp->VK->Prop:=λx lo hi H Q=>∃a xs,x=.ref a/\SqT K H a xs∧¬ (HT.sIx xs.length 0 lo=0/\HT.sIx xs.length xs.length hi=xs.length)/\∀p,H p=ψ->Q (.ref p) (upd H p (.t (lz xs lo hi)))
theorem Bb:SlR X (rSlT X.K):=by
 intro J0 s σ H x v vl vu lo hi sl Q I rx W pl Y h;have⟨a,xs,rfl,Z,hw,q⟩:=h;cases rx;have⟨J3,r,U,hz⟩:=I.tuple Z;have O:J3.toArray.size=xs.length:=by rw[qb5];exact r.length.symm
 refine⟨"tuple",_,qn3.lookup,U.typeIs,?_⟩;refine HT.oC U W pl Y (by rw[O];exact hw) ?_ (by rw[O];exact hz);rw[O];refine⟨.ref s.heap.objs.size,_,I.laid (t':=s.toks) (o:=.t (lz xs lo hi)) (λb ob q=>gP _ q) (nL _) ?_,rfl,q _ (I.hok.fresh (nL _))⟩;exact⟨qd7 (gf xs lo hi) hz,_,(r.drop (HT.sIx xs.length 0 lo)).take (HT.sIx xs.length xs.length hi-HT.sIx xs.length 0 lo),IsTu.new _ _⟩
def zw(K:xA9):R2:=λx y H Q=>∃a b xs ys,x=.ref a/\y=.ref b/\SqT K H a xs/\SqT K H b ys/\xs≠[]/\xs.length+ys.length<=qa5∧(ys=[]->Q (.ref a) H)/\(ys≠[]->∀p,H p=ψ->Q (.ref p) (upd H p (.t (xs++ys))))
theorem Vals.nil_iff(r:Vals xs us):us=[]↔xs=[]:=by
 cases r with
 |nil=>simp
 |cons _ _=>simp
theorem w8:OpR X (qi0 .Add) (zw X.K):=by intro J0 s σ H x y v u Q I rx ry h;have⟨a,b,xs,ys,rfl,rfl,Y,hb,Z,hz,q1,q2⟩:=h;cases rx;cases ry;have⟨J3,U,p1,_⟩:=I.tuple Y;have⟨W,O,p2,_⟩:=I.tuple hb;refine HT.FV p1 p2 (λz=>Z (U.nil_iff.mp z)) (λz=>⟨.ref a,H,I,rfl,q1 (O.nil_iff.mp z)⟩) (λz=>?_) (by rw[<- U.length,<- O.length];exact hz);refine⟨.ref s.heap.objs.size,_,I.laid (t':=s.toks) (o:=.t (xs++ys)) (λb ob q=>gP _ q) (nL _) ?_,rfl,q2 (λw=>z (O.nil_iff.mpr w)) _ (I.hok.fresh (nL _))⟩;exact⟨by rw[qc4];exact hz,_,U.append O,IsTu.new _ _⟩
end
noncomputable def ixN(n:Nat)(i:Int):ζ Nat:=if 0<=i then(if i<n then ς i.toNat else ψ)else if -(n:Int)<=i then ς (i+n).toNat else ψ
def atI{α:Type}(xs:η α)(i:Int):ζ α:=(ixN xs.length i).bind λj=>xs[j]?
variable{j:Nat}
theorem oE{n:Nat}{i:Int}(h:ixN n i=ς j):ze2 i n=ς j/\j<n/\-(n:Int)<=i/\i<n:=by
 unfold ixN at h;by_cases O:0<=i
 .rw[if_pos O]at h;by_cases h1:i<n
  .rw[if_pos h1]at h;have e:i.toNat=j:=qd3 h;exact⟨by rw[seqIndex_of O h1,e],Θ,Θ,h1⟩
  .rw[if_neg h1]at h;cases h
 .rw[if_neg O]at h;by_cases h1:-(n:Int)<=i
  .rw[if_pos h1]at h;have e:(i+n).toNat=j:=qd3 h;exact⟨by rw[zf4 Θ h1,e],Θ,h1,Θ⟩
  .rw[if_neg h1]at h;cases h
theorem jT{α:Type}{xs:η α}{i:Int}{v:α}(h:atI xs i=ς v):∃j,ze2 i xs.length=ς j/\xs[j]?=ς v/\j<xs.length/\-(xs.length:Int)<=i/\i<xs.length:=by
 unfold atI at h;cases e:ixN xs.length i with
 |none=>rw[e]at h;cases h
 |some j=>rw[e]at h;have⟨h1,h2,O,h4⟩:=oE e;exact⟨j,h1,h,h2,O,h4⟩
theorem w9{α:Type}{xs:η α}{v:α}(h:xs[j]?=ς v):atI xs (j:Int)=ς v:=by
 have O:j<xs.length:=(gX h).1
 have e:ixN xs.length (j:Int)=ς j:=by unfold ixN;rw[if_pos Θ,if_pos Θ];simp
 unfold atI;rw[e];exact h
def jU(b:J8):Prop:=∀o i,subscripted b ξ o i=operate [o,i] (zg4 o i)
def IxR(X:Cx)(r:R2):Prop:=
 ∀(value O:J8)(J0:η (J4×Obj))(s:qa7)(σ:St)(H:Hp)(x y:V)(v u:Value)(Q:VK),Inv X J0 σ H s->RelV x v->RelV y u->r x y H Q→
  subscripted O ξ v u=operate [v,u] (zg4 v u)->wpAny (model X.prog X.w) X.A (ze1 value O v u) (EP X J0 σ Q) X.xe s
def MtR(X:Cx)(id:String)(r:V->η V->Hp->VK->Prop):Prop:=
 ∀(J0:η (J4×Obj))(s:qa7)(σ:St)(H:Hp)(x:V)(xs:η V)(v:Value)(us:η Value)(Q:VK),Inv X J0 σ H s->RelV x v->Vals xs us->r x xs H Q→
  wpAny (model X.prog X.w) X.A (call (.builtin id) (v::us)) (EP X J0 σ Q) X.xe s
variable{J0:η (J4×Obj)}{σ:St}{H:Hp}{J3 its':η Value}{A:qk4}{y:V}{u:Value}
section
variable{X:Cx}{a b:J8}{ta tb:TE}{pos:Pos}
theorem IxR.or{r W:R2}(h:IxR X r)(h':IxR X W):IxR X (λx y H Q=>r x y H Q\/W x y H Q):=by
 intro value O J0 s σ H x y v u Q I Y Z q U;rcases q with q|q
 .exact h value O J0 s σ H x y v u Q I Y Z q U
 .exact h' value O J0 s σ H x y v u Q I Y Z q U
theorem D4{r:R2}(W:IxR X r)(O:PE X a ta)(hb:PE X b tb)(hs:jU b):PE X (.Subscript a b pos) (tOp r ta tb):=by intro J0 s σ H Q I h;exact Subscript_ (AK O hb I h λv u U x y H2 I2 Y Z q=>W a b J0 U σ H2 x y v u Q I2 Y Z q (hs _ _))
def rIxL(K:xA9):R2:=λx y H Q=>∃p xs i v,x=.ref p/\y=.int i/\SqL K H p xs/\atI xs i=ς v/\Q v H
def rIxT(K:xA9):R2:=λx y H Q=>∃p xs i v,x=.ref p/\y=.int i/\SqT K H p xs/\atI xs i=ς v/\Q v H
def rIxS:R2:=λx y H Q=>∃z i c,x=.str z/\y=.int i/\z.length<=qa5/\atI z.cps.toList i=ς c/\Q (.str ⟨#[c]⟩) H
theorem ix_list:IxR X (rIxL X.K):=by
 intro value slice J0 s σ H x y v u Q I rx ry h hs;have⟨p,xs,i,z,rfl,rfl,hq,he,q⟩:=h;cases rx;have⟨t,rfl⟩:=ry;have⟨J3,r,pl,hz⟩:=I.list hq;have⟨j,h1,h2,h3,h4,h5⟩:=jT he;have⟨w,ew,rw'⟩:=r.get h2;have hl:=r.length;have hn:=fG;have fin:EP X J0 σ Q w s:=⟨z,H,I,rw',q⟩;by_cases h0:0<=i
 .have hj:i.toNat=j:=by rw[seqIndex_of h0 h5]at h1;exact qd3 h1
  exact item_listR pl.isList h0 Θ (by rw[hj];simpa using ew) fin hs
 .have hj:(i+(J3.toArray.size:Int)).toNat=j:=by rw[zf4 Θ h4]at h1;rw[qb5,<- hl];exact qd3 h1
  exact zb0 (x:=w) pl.isList.typeIs slot_list_getitem.lookup
   (wpAny_getItem_list_neg (Q:=λr s'=>r=w/\EP X J0 σ Q r s') pl.isList Θ (by rw[qb5]<;>lia) Θ (by rw[hj];simpa using ew) ⟨rfl,fin⟩) hs
theorem ix_tup:IxR X (rIxT X.K):=by
 intro value slice J0 s σ H x y v u Q I rx ry h hs;have⟨p,xs,i,z,rfl,rfl,hq,he,q⟩:=h;cases rx;have⟨t,rfl⟩:=ry;have⟨J3,r,pl,hz⟩:=I.tuple hq;have⟨j,h1,h2,h3,h4,h5⟩:=jT he;have⟨w,ew,rw'⟩:=r.get h2;have hl:=r.length;have hn:=fG;have fin:EP X J0 σ Q w s:=⟨z,H,I,rw',q⟩
 exact zb0 (x:=w) pl.typeIs slot_tuple_getitem.lookup
  (getItem_tuple (j:=j) (Q:=λr s'=>r=w/\EP X J0 σ Q r s') pl Θ Θ (by rw[qb5,<- hl];exact h1) ‹ew› ⟨rfl,fin⟩) hs
theorem Bc:IxR X rIxS:=by
 intro value slice J0 s σ H x y v u Q I rx ry h hs;have⟨z,i,c,rfl,rfl,hz,he,q⟩:=h;have⟨t,rfl⟩:=rx;have⟨t',rfl⟩:=ry;have⟨j,h1,h2,h3,h4,h5⟩:=jT he;have hl:z.cps.toList.length=z.length:=by simp[Str.length]
 rw[hl]at h1 h4 h5;have hn:=fG
 exact tail_any (typeIs_str s z t) slot_str_getitem.lookup (getItem_str (c:=c) (by have e1:decide (i < -(2^63:Int))=ξ:=decide_eq_false Θ;have e2:decide (i ≥ 2^63)=ξ:=decide_eq_false Θ;rw[e1,e2,Bool.or_false]) (by rw[h1];simpa using h2) ⟨.str ⟨#[c]⟩,H,I.tok _,⟨_,rfl⟩,q⟩) hs
def rIx(K:xA9):R2:=λx y H Q=>rIxL K x y H Q\/rIxT K x y H Q\/rIxS x y H Q
theorem Be:IxR X (rIx X.K):=ix_list.or (ix_tup.or Bc)
theorem mV(J3:η Value)(n j:Nat)(u:Value):ql1 (·.setIfInBounds j u) {cls:=.type "list",data:=.seq J3.toArray n}={cls:=.type "list",data:=.seq (J3.set j u).toArray n}:=by simp[ql1]
theorem Inv.lst {s:qa7} {p:J4} (I:Inv X J0 σ H s) (h:H p=ς (.e xs)) :
  ∃(J3:η Value)(n:Nat),Vals xs J3/\s.heap.get? p=ς {cls:=.type "list",data:=.seq J3.toArray n}/\xs.length<=qa5:=by
 have⟨z,J3,n,r,e⟩:=I.hok p _ h;exact⟨J3,n,r,e,z⟩
theorem Inv.lstUpd{s:qa7}{p:J4}{ys:η V}{n n':Nat}{f:Obj->Obj}(I:Inv X J0 σ H s)(h:H p=ς (.e xs))
 (U:s.heap.get? p=ς {cls:=.type "list",data:=.seq J3.toArray n}) (O:f {cls:=.type "list",data:=.seq J3.toArray n}={cls:=.type "list",data:=.seq its'.toArray n'}) (r:Vals ys its') (hz:ys.length<=qa5) (t:Nat) :
  Inv X J0 σ (upd H p (.e ys)) {s with heap:=s.heap.update p f,toks:=t}:=by
 have e:(s.heap.update p f).get? p=ς {cls:=.type "list",data:=.seq its'.toArray n'}:=by rw[qg1 f U (by rw[O]<;>rfl),O]
 refine I.write (x:=p) (e:=p) (by rw[h];trivial) (.inl rfl) (λb u hb q=>(qi6 _ _ (qj5 hb)).trans q) ⟨_,e⟩ ?_;exact⟨hz,its',n',r,e⟩
def sY:V->V->V->Hp->(Hp->Prop)->Prop:=λo i v H Q=>∃p xs k j,o=.ref p/\i=.int k/\H p=ς (.e xs)/\ixN xs.length k=ς j/\Q (upd H p (.e (xs.set j v)))
theorem lA:PSet X sY:=by
 intro J0 s σ H o i v ov iv u Q I ro ri rv h;have⟨p,xs,k,j,rfl,rfl,hp,hj,q⟩:=h;cases ro;have⟨t,rfl⟩:=ri;have⟨J3,n,r,ho,hz⟩:=I.lst hp;have⟨h1,h2,h3,h4⟩:=oE hj;have hl:=r.length;have hn:=fG
 have I':Inv X J0 σ (upd H p (.e (xs.set j v))) {s with heap:=s.heap.update p (ql1 (·.setIfInBounds j u))}:=I.lstUpd hp ho (mV J3 n j u) (r.set rv j) (by rw[List.length_set];exact hz) s.toks
 by_cases h0:0<=k
 .have hk:k.toNat=j:=by rw[seqIndex_of h0 h4]at h1;exact qd3 h1
  exact PySem.W.ki_setAt ho h0 Θ (by rw[qb5,<- hl];exact h4) (by rw[hk];exact⟨_,I',q⟩)
 .have hk:(k+(J3.toArray.size:Int)).toNat=j:=by rw[zf4 Θ h3]at h1;rw[qb5,<- hl];exact qd3 h1
  exact PySem.W.ki_setBack ho Θ (by rw[qb5,<- hl];exact h3) Θ (by rw[hk];exact⟨_,I',q⟩)
theorem jV(lo hi:ζ Int)(n:Nat):(qt4 lo hi ψ n).1=((HT.sIx n 0 lo:Nat):Int)/\(qt4 lo hi ψ n).2.1=((HT.sIx n n hi:Nat):Int)/\(qt4 lo hi ψ n).2.2=1:=by
 refine⟨?_,?_,rfl⟩
 .cases lo with
  |none=>simp[qt4,HT.sIx]
  |some i=>
   rwa[qt4,HT.sIx,za5,show(1:Int) > 0 by decide,if_true];by_cases h:i<0
   .rwa[h,if_true]<;>lia
   .rwa[h,if_false]<;>lia
 .cases hi with
  |none=>simp[qt4,HT.sIx]
  |some i=>
   rwa[qt4,HT.sIx,za5,show(1:Int) > 0 by decide,if_true];by_cases h:i<0
   .rwa[h,if_true]<;>lia
   .rwa[h,if_false]<;>lia
theorem iL(J3:η Value)(lo hi:ζ Int):slicePick J3.toArray lo hi ψ=((J3.drop (HT.sIx J3.length 0 lo)).take (HT.sIx J3.length J3.length hi-HT.sIx J3.length 0 lo)).toArray:=by have⟨h1,h2,O⟩:=jV lo hi J3.toArray.size;unfold slicePick;rw[h1,h2,O];rwa[sliceRange_one,pick_run,qb5]<;>rfl
def rSlL(K:xA9):V->ζ Int->ζ Int->Hp->VK->Prop:=λx lo hi H Q=>∃a xs,x=.ref a/\SqL K H a xs/\∀p,H p=ψ->Q (.ref p) (upd H p (.e (lz xs lo hi)))
theorem xa:SlR X (rSlL X.K):=by intro J0 s σ H x v vl vu lo hi sl Q I rx W pl Y h;have⟨a,xs,rfl,Z,q⟩:=h;cases rx;have⟨J3,r,U,hz⟩:=I.list Z;have O:=r.length;refine⟨"list",_,slot_list_getitem.lookup,U.isList.typeIs,?_⟩;refine wpAny_getItem_list_slice U.isList W pl Y .none Ξ ?_ (by rw[qb5]<;>lia);rw[iL,<- O];refine⟨.ref s.heap.objs.size,_,I.laid (t':=s.toks) (o:=.e (lz xs lo hi)) (λb ob q=>gP _ q) (nL _) ?_,rfl,q _ (I.hok.fresh (nL _))⟩;exact⟨qd7 (gf xs lo hi) hz,_,0,(r.drop (HT.sIx xs.length 0 lo)).take (HT.sIx xs.length xs.length hi-HT.sIx xs.length 0 lo),qc2 _ rfl⟩
noncomputable def aX:V->Bool
 |.non=>θ
 |.bl _=>θ
 |.int _=>θ
 |.str _=>θ
 |_=>ξ
noncomputable def eqV:V->V->Bool
 |.non,.non=>θ
 |.bl a,.bl b=>a==b
 |.bl a,.int b=>(if a then 1 else 0)==b
 |.int a,.bl b=>a==(if b then 1 else 0)
 |.int a,.int b=>a==b
 |.str a,.str b=>a==b
 |_,_=>ξ
theorem dL{s:qa7}{x:V}{v:Value}(U:RelV y u)(O:RelV x v)(W:aX y=θ)(fx:aX x=θ):qf1 A s u v (eqV y x):=by
 cases y with
 |non=>
  cases U;cases x with
  |non=>cases O;exact qw3 _
  |bl b=>cases O;exact qf1.none_bool b
  |int b=>have⟨t,rfl⟩:=O;exact qf1.none_int b t
  |str b=>have⟨t,rfl⟩:=O;exact qf1.none_str b t
  |_=>exact absurd (show ξ=θ from fx) qb7
 |bl a=>
  cases U;cases x with
  |non=>cases O;exact qf1.bool_none a
  |bl b=>cases O;exact qf1.bool_bool a b
  |int b=>have⟨t,rfl⟩:=O;exact qf1.bool_int a b t
  |str b=>have⟨t,rfl⟩:=O;exact qf1.bool_str a b t
  |_=>exact absurd (show ξ=θ from fx) qb7
 |int a=>
  have⟨t',rfl⟩:=U;cases x with
  |non=>cases O;exact qf1.int_none a t'
  |bl b=>cases O;exact qf1.int_bool a t' b
  |int b=>have⟨t,rfl⟩:=O;exact qf1.int_int a t' b t
  |str b=>have⟨t,rfl⟩:=O;exact qf1.int_str a t' b t
  |_=>exact absurd (show ξ=θ from fx) qb7
 |str a=>
  have⟨t',rfl⟩:=U;cases x with
  |non=>cases O;exact qf1.str_none a t'
  |bl b=>cases O;exact qf1.str_bool a t' b
  |int b=>have⟨t,rfl⟩:=O;exact qf1.str_int a t' b t
  |str b=>have⟨t,rfl⟩:=O;exact qf1.str_str a t' b t
  |_=>exact absurd (show ξ=θ from fx) qb7
 |_=>exact absurd (show ξ=θ from W) qb7
def eqU(x:V)(u:Value):Bool:=match u with
 |.none=>eqV .non x
 |.bool b=>eqV (.bl b) x
 |.int i _=>eqV (.int i) x
 |.str z _=>eqV (.str z) x
 |_=>ξ
theorem sZ{x:V}(r:RelV y u)(f:aX y=θ):eqU x u=eqV y x:=by
 cases y with
 |non=>cases r;rfl
 |bl b=>cases r;rfl
 |int i=>have⟨t,rfl⟩:=r;rfl
 |str z=>have⟨t,rfl⟩:=r;rfl
 |_=>exact absurd (show ξ=θ from f) qb7
theorem ej{x:V}:∀{xs:η V}{us:η Value},Vals xs us->xs.all aX=θ->us.any (eqU x)=xs.any λy=>eqV y x
 |_,_,.nil,_=>rfl
 |y::xs,u::us,.cons r t,f=>by rw[qd4,qa1]at f;rw[qm0,qm0,sZ r f.1,ej t f.2]
theorem cL{s:qa7}{x:V}{v:Value}(U:RelV x v)(fx:aX x=θ):∀{xs:η V}{us:η Value},Vals xs us->xs.all aX=θ->∀u∈us,qf1 A s u v (eqU x u)
 |_,_,.nil,_=>λu O=>by cases O
 |y::xs,u::us,.cons r t,f=>λW O=>by
  rw[qd4,qa1]at f;rcases qc3.mp O with rfl|O
  .rw[sZ r f.1];exact dL r U f.1 fx
  .exact cL U fx t f.2 W O
def inV(x:V)(xs:η V):Bool:=xs.any λy=>eqV y x
def rIn(K:xA9)(O:Bool):R2:=λx y H Q=>∃p xs,y=.ref p/\(SqL K H p xs\/SqT K H p xs)/\aX x=θ/\xs.all aX=θ/\Q (.bl (if O then !inV x xs else inV x xs)) H
theorem qD:OpR X (qe2 .In) (rIn X.K ξ):=by
 intro J0 s σ H x y v u Q I W Y h;have⟨p,xs,rfl,O,fx,fs,q⟩:=h;cases Y;rcases O with O|O
 .have⟨J3,r,pl,hz⟩:=I.list O;refine SeqAt.in_listAt (eqU x) pl.isList (λw U=>cL W fx r fs w ‹U›) ⟨.bl _,H,I,rfl,?_⟩;rw[show J3.toArray.any (eqU x)=J3.any (eqU x)by simp,ej r fs];exact q
 .have⟨J3,r,pl,hz⟩:=I.tuple O;refine SeqAt.in_tupleAt (eqU x) pl (λw U=>cL W fx r fs w ‹U›) ⟨.bl _,H,I,rfl,?_⟩;rw[show J3.toArray.any (eqU x)=J3.any (eqU x)by simp,ej r fs];exact q
theorem jW:OpR X (qe2 .NotIn) (rIn X.K θ):=by
 intro J0 s σ H x y v u Q I W Y h;have⟨p,xs,rfl,O,fx,fs,q⟩:=h;cases Y;rcases O with O|O
 .have⟨J3,r,pl,hz⟩:=I.list O;refine SeqAt.notIn_listAt (eqU x) pl.isList (λw U=>cL W fx r fs w ‹U›) ⟨.bl _,H,I,rfl,?_⟩;rw[show J3.toArray.any (eqU x)=J3.any (eqU x)by simp,ej r fs];exact q
 .have⟨J3,r,pl,hz⟩:=I.tuple O;refine SeqAt.notIn_tupleAt (eqU x) pl (λw U=>cL W fx r fs w ‹U›) ⟨.bl _,H,I,rfl,?_⟩;rw[show J3.toArray.any (eqU x)=J3.any (eqU x)by simp,ej r fs];exact q
theorem jX:OpR X (qe2 .NotIn) (λx y H Q=>∃i j,x=.str i/\y=.str j/\Q (.bl (!(!(qs4 j i 0 j.length 1).isEmpty))) H):=by intro J0 s σ H x y v u Q I O U h;have⟨i,j,rfl,rfl,q⟩:=h;have⟨t,rfl⟩:=O;have⟨t',rfl⟩:=U;exact notIn_str ⟨.bl _,H,I,rfl,q⟩
theorem CallR.or{f:Value}{r U:η V->Hp->VK->Prop}(h:CallR X f r)(h':CallR X f U):CallR X f (λxs H Q=>r xs H Q\/U xs H Q):=by
 intro J0 s σ H xs us Q I O q;rcases q with q|q
 .exact h J0 s σ H xs us Q I O q
 .exact h' J0 s σ H xs us Q I O q
theorem jY:CallR X (.type "list") (λxs H Q=>∃p ys,xs=[.ref p]/\(SqL X.K H p ys\/SqT X.K H p ys)/\∀l,H l=ψ->Q (.ref l) (upd H l (.e ys))):=by
 intro J0 s σ H xs us Q I r h;have⟨p,ys,rfl,W,q⟩:=h;have⟨u,rfl,rx⟩:=dC r;cases rx
 have fin:∀ (J3:η Value),Vals ys J3->ys.length<=qa5->∀ (h':Heap) (O:Nat),(∀ b o',s.heap.get? b=ς o'->h'.get? b=ς o')→
     h'.get? s.heap.objs.size=ς {cls:=.type "list",dict:=ψ,data:=.seq J3.toArray O,slots:=#[]}->EP X J0 σ Q (.ref s.heap.objs.size) {s with heap:=h'}:=λJ3 U hz h' O kp e=>
  ⟨.ref s.heap.objs.size,_,I.laid (t':=s.toks) kp (nL _) (show ObjOk X.prog X.w _ h' _ (.e ys)from⟨hz,J3,O,U,e⟩),rfl,q _ (I.hok.fresh (nL _))⟩
 rcases W with W|W
 .have⟨J3,U,pl,hz⟩:=I.list W;have Y:=U.length;have⟨o,ho,hc,n,Z⟩:=pl.isList;exact call_list_seq p (.inl rfl) ho hc Z (λh' O kp e=>fin J3 U hz h' O kp e) (by rwa[qb5]<;>lia)
 .have⟨J3,U,pl,hz⟩:=I.tuple W;have Y:=U.length;have⟨o,ho,hc,n,Z⟩:=pl;exact call_list_seq p (.inr rfl) ho hc Z (λh' O kp e=>fin J3 U hz h' O kp e) (by rwa[qb5]<;>lia)
theorem iM:CallR X (.type "tuple") (λxs H Q=>∃p ys,xs=[.ref p]/\((SqL X.K H p ys/\∀l,H l=ψ->Q (.ref l) (upd H l (.t ys)))\/(SqT X.K H p ys/\Q (.ref p) H))):=by
 intro J0 s σ H xs us Q I r h;have⟨p,ys,rfl,h⟩:=h;have⟨u,rfl,rx⟩:=dC r;cases rx;rcases h with ⟨U,q⟩|⟨U,q⟩
 .have⟨J3,O,pl,hz⟩:=I.list U;have Y:=O.length;refine call_tuple_list pl.isList (λh' kp=>?_) (by rwa[qb5]<;>lia);have W:Inv X J0 σ H {s with heap:=h'}:=I.kept (t':=s.toks) kp
  have Z:Inv X J0 σ (upd H h'.objs.size (.t ys)) {s with heap:=h'.push {cls:=.type "tuple",data:=.seq J3.toArray}}:=W.laid (t':=s.toks) (λb o e=>gP _ e) (nL _) (show ObjOk X.prog X.w _ _ _ (.t ys)from⟨hz,J3,O,IsTu.new _ _⟩)
  exact⟨.ref h'.objs.size,_,Z,rfl,q _ (W.hok.fresh (nL _))⟩
 .have⟨J3,O,pl,hz⟩:=I.tuple U;exact call_tuple_same pl ⟨.ref p,H,I,rfl,q⟩
def tyV(K:xA9)(T:String)(x:V)(H:Hp):Prop:=match x with
 |.str _=>T="str"
 |.int _=>T="int"
 |.ref p=>(T="list"/\∃xs,SqL K H p xs)\/(T="tuple"/\∃o,K.lookup p=ς o/\o.cls=.type "tuple"/\o.dict=ψ)\/(T="dict"/\((∃J1,H p=ς (.dK J1))\/∃J1,H p=ς (.dT J1)))\/(T="set"/\∃S n,H p=ς (.set S n))
 |_=>False
theorem tf {s:qa7} {T:String} {x:V} {v:Value} (I:Inv X J0 σ H s) (r:RelV x v) (ty:tyV X.K T x H) :
  s.TypeIs v T/\∀a,v=.ref a->∃ob,s.heap.get? a=ς ob/\ob.dict=ψ:=by
 cases x with
 |str z=>have⟨t,rfl⟩:=r;cases (show T="str" from ty);exact⟨typeIs_str s z t,λ_ e=>nomatch e⟩
 |int i=>have⟨t,rfl⟩:=r;cases (show T="int" from ty);exact⟨typeIs_int s i t,λ_ e=>nomatch e⟩
 |ref p=>
  cases r;rcases ty with ⟨rfl,xs,W⟩|⟨rfl,o,O,hc,U⟩|⟨rfl,O⟩|⟨rfl,S,n,O⟩
  .have⟨J3,_,pl,_⟩:=I.list W;refine⟨pl.isList.typeIs,λa e=>?_⟩;cases e;have⟨o,n,e,c,U,_⟩:=pl;exact⟨o,e,U⟩
  .refine⟨⟨o,I.kIn p o O,hc⟩,λa e=>?_⟩;cases e;exact⟨o,I.kIn _ o O,U⟩
  .have z:∃o,s.heap.get? p=ς o/\o.ExactDict:=by
    rcases O with ⟨J1,O⟩|⟨J1,O⟩
    .have⟨_,_,_,_,o,_,_,e,ex,_⟩:=I.hok p _ O;exact⟨o,e,ex⟩
    .have⟨_,_,_,_,o,_,_,e,ex,_⟩:=I.hok p _ O;exact⟨o,e,ex⟩
   have⟨o,e,ex⟩:=z;refine⟨⟨o,e,ex.1⟩,λa e2=>?_⟩;cases e2;exact⟨o,e,ex.2.1⟩
  .have⟨o,_,_,_,e,ex,_⟩:=I.hok p _ O;refine⟨⟨o,e,ex.1⟩,λa e2=>?_⟩;cases e2;exact⟨o,e,ex.2.1⟩
 |_=>exact qk9 ty
def tBM0(K:xA9)(T:String)(r:V->η V->Hp->VK->Prop)(to:TE):TE:=λσ H Q=>to σ H λx H1=>tyV K T x H1/\r x [] H1 Q
def tBM(K:xA9)(T:String)(r:V->η V->Hp->VK->Prop)(to:TE)(t:TA):TE:=λσ H Q=>to σ H λx H1=>tyV K T x H1/\t σ H1 λxs H2=>r x xs H2 Q
variable{o e:J8}{es:η J8}{to:TE}{t:TA}{name:Str}{apos cpos:Pos}{T id:String}{r:V->η V->Hp->VK->Prop}
theorem mW (pa:PlainAttrs T) (Y:Slot T name id) (Z:typeOf (.builtin id)=pure (.type "method_descriptor")) (hm:MtR X id r) (ho:PE X o to)
  (O:qj4 o name X.env (eval o X.env)=eval o X.env:=by rfl) (U:(apos.endLine==cpos.line)=θ:=by rfl):PE X (.Call (.Attribute o name apos) [] [] cpos) (tBM0 X.K T r to):=by
 intro J0 s σ H Q I h;refine wpAny_Call_method0_late O U (thn (ho J0 s σ H _ I h) λv s1 W=>?_);have⟨x,H1,I1,r1,ty,q1⟩:=W;have⟨h1,h2⟩:=tf I1 r1 ty;exact⟨T,id,pa,Y,Z,h1,h2,qt2 rfl (PySem.evalArgs_none (hm J0 s1 σ H1 x [] v [] Q I1 r1 .nil q1))⟩
theorem lE (pa:PlainAttrs T) (Y:Slot T name id) (hty:typeOf (.builtin id)=pure (.type "method_descriptor")) (hm:MtR X id r) (ho:PE X o to) (ha:PA X (e::es) t)
  (W:qj4 o name X.env (eval o X.env)=eval o X.env:=by rfl)
  (hfew:((qi3 cpos (qb3 (e::es) X.env)).all (λx=>!x.1)&&(qp6 cpos (qi9 [] X.env)).all (λx=>x.1.isSome)
   && decide ((e::es).length+([]:η qy0).length+(if([]:η qy0).isEmpty then 0 else 1)<30))=θ:=by rfl)
  (U:(apos.endLine==cpos.line)=θ:=by rfl) (hs:qb3 (e::es) X.env=(ξ,eval e X.env)::qb3 es X.env:=by rfl) (O:(qi3 cpos (qb3 es X.env)).any (·.1)=ξ:=by rfl) :
  PE X (.Call (.Attribute o name apos) (e::es) [] cpos) (tBM X.K T r to t):=by
 intro J0 s σ H Q I h;refine wpAny_Call_method_late W hfew U rfl (thn (ho J0 s σ H _ I h) λv s1 Z=>?_);have⟨x,H1,I1,r1,ty,q1⟩:=Z;have⟨h1,h2⟩:=tf I1 r1 ty;refine⟨T,id,pa,Y,hty,h1,h2,?_⟩;have hA:=ha cpos J0 s1 σ H1 _ I1 q1;rw[hs]at hA ⊢;refine qt2 (by show(ξ||(qi3 cpos (qb3 es X.env)).any (·.1))=ξ;rw[O]<;>rfl) (Calls.evalArgs_plain ?_);exact thn hA λus s2 hq90=>by have⟨vs,H2,I2,r2,q2⟩:=hq90;exact hm J0 s2 σ H2 x vs v us Q I2 r1 r2 q2
end
def MtM(X:Cx)(id:String)(r:V->η V->Hp->VK->Prop):Prop:=
 ∀(J0:η (J4×Obj))(s:qa7)(σ:St)(H:Hp)(x:V)(xs:η V)(v:Value)(us:η Value)(Q:VK),Inv X J0 σ H s->RelV x v->Vals xs us->r x xs H Q→
  wpAny (model X.prog X.w) X.A (call (.builtin id) (v::us)) (EP X J0 σ Q) X.xe s
theorem Vals.one:∀{x:V}{us:η Value},Vals [x] us->∃u,us=[u]/\RelV x u
 |_,_,.cons r .nil=>⟨_,rfl,r⟩
theorem Vals.zero:∀{us:η Value},Vals [] us->us=[]
 |_,.nil=>rfl
theorem Vals.eraseIdx:∀{xs:η V}{us:η Value}(i:Nat),Vals xs us->Vals (xs.eraseIdx i) (us.eraseIdx i)
 |_,_,_,.nil=>.nil
 |_,_,0,.cons _ t=>t
 |_,_,i+1,.cons r t=>.cons r (Vals.eraseIdx i t)
theorem Vals.rep(h:Vals xs us):∀k:Nat,Vals (qb1 k xs).flatten (qb1 k us).flatten
 |0=>.nil
 |k+1=>by rw[qg2,qg2,ql2,ql2];exact Vals.append h (Vals.rep h k)
theorem jc{α:Type}:∀(l:η α)(i:Nat),(l.eraseIdx i).length<=l.length
 |[],_=>nL _
 |_::_,0=>qn7 _
 |_::r,i+1=>qu9 (jc r i)
theorem jd (J3:η Value):∀ (k:Nat) (O:η Value),
  zd1 (λW U=>W++U) O.toArray (qb1 k J3.toArray)=(O++(qb1 k J3).flatten).toArray
 |0,O=>by simp
 |k+1,O=>by
  have e:O.toArray++J3.toArray=(O++J3).toArray:=by simp
  have e2:(O++J3)++(qb1 k J3).flatten=O++(qb1 (k+1) J3).flatten:=by rw[qg2,ql2,qd8]
  rw[<- e2,<- jd J3 k (O++J3),<- e,qg2,qs6]
variable{t':Nat}
section
variable{X:Cx}{J0:η (J4×Obj)}{σ:St}{H:Hp}{s:qa7}{l b:J4}{xs ys zs:η V}
theorem Inv.lset{n:Nat}{f:Array Value->Array Value}(I:Inv X J0 σ H s)(W:H l=ς (.e xs))
 (e:s.heap.get? l=ς {cls:=.type "list",data:=.seq J3.toArray n}) (Y:f J3.toArray=its'.toArray) (O:Vals ys its') (hz:ys.length<=qa5) :
  Inv X J0 σ (upd H l (.e ys)) {s with heap:=s.heap.update l (ql1 f),toks:=t'}:=by
 have q:=PySem.IsL.update e f;rw[Y]at q;refine I.write (x:=l) (e:=l) (by rw[W];exact trivial) (.inl rfl) (λb' u hb U=>(qi6 s.heap (ql1 f) (qj5 hb)).trans U) ⟨_,q⟩ ?_;exact⟨hz,its',_,O,q⟩
theorem Inv.lnew (I:Inv X J0 σ H s) (O:Vals ys J3) (hz:ys.length<=qa5) :
  Inv X J0 σ (upd H s.heap.objs.size (.e ys)) {s with heap:=s.heap.push {cls:=.type "list",data:=.seq J3.toArray},toks:=t'}:=
 I.laid (λ_ _ q=>gP _ q) (nL _) ⟨hz,J3,0,O,qc2 _ rfl⟩
theorem Inv.fresh(I:Inv X J0 σ H s):H s.heap.objs.size=ψ:=I.hok.fresh (nL _)
theorem Inv.lstM(I:Inv X J0 σ H s)(O:H l=ς (.e xs)):xs.length<=qa5/\∃(J3:η Value)(n:Nat),Vals xs J3/\xs.length=J3.length/\s.heap.get? l=ς {cls:=.type "list",data:=.seq J3.toArray n}:=by have⟨z,J3,n,r,e⟩:=I.hok l _ O;exact⟨z,J3,n,r,r.length,e⟩
theorem tj{n:Nat}(h:n<=qa5):qr9 n=ξ:=by unfold qr9;exact decide_eq_false Θ
end
section
variable{X:Cx}
def xb:V->η V->Hp->VK->Prop:=λx vs H Q=>∃l xs y,x=.ref l/\vs=[y]/\H l=ς (.e xs)/\xs.length<qa5/\Q .non (upd H l (.e (xs++[y])))
theorem fK:MtM X "list.append" xb:=by intro J0 s σ H x vs v us Q I Y W h;have⟨l,xs,y,rfl,rfl,O,hz,q⟩:=h;cases Y;have⟨u,rfl,U⟩:=W.one;have⟨z,J3,n,r,hl,e⟩:=I.lstM O;refine qv8 F.slot_list_append ⟨_,e,rfl⟩ F.entry_list_append (F.args_list_append_2 _ _) (PySem.list_append l J3.toArray n u (by rw[qb5];lia)) ⟨e,?_⟩;refine⟨.non,_,I.lset (its':=J3++[u]) O e Ξ (r.append (.cons U .nil)) ?_,rfl,q⟩;rw[qc4,qm1];lia
def Bg:V->η V->Hp->VK->Prop:=λx vs H Q=>∃l xs i k y,x=.ref l/\vs=[.int i]/\H l=ς (.e xs)/\-(2^63)<=i/\i<2^63/\ze2 i xs.length=ς k/\xs[k]?=ς y/\Q y (upd H l (.e (xs.eraseIdx k)))
theorem tm:MtM X "list.pop" Bg:=by
 intro J0 s σ H x vs v us Q I rx Z h;have⟨l,xs,i,k,y,rfl,rfl,U,h1,h2,hk,W,q⟩:=h;cases rx;have⟨u,rfl,Y⟩:=Z.one;have⟨t,rfl⟩:=Y;have⟨z,J3,n,r,hl,e⟩:=I.lstM U;have⟨w,hw,O⟩:=r.get W
 refine qv8 F.slot_list_pop ⟨_,e,rfl⟩ F.entry_list_pop (F.args_list_pop_2 _ _)
  (MeetsSeq.list_pop_at l J3.toArray n i t k w (fitsIndex_both h1 h2) (by rw[qb5,<- hl];exact hk) (by rw[<- zc2];exact hw) (by rw[qb5];lia)) ⟨e,?_⟩
 refine⟨y,_,I.lset (its':=J3.eraseIdx k) U e ?_ (r.eraseIdx k) ?_,O,q⟩
 .show J3.toArray.eraseIdxIfInBounds k=(J3.eraseIdx k).toArray;rw[List.eraseIdxIfInBounds_toArray]
 .have:=jc xs k;lia
def Bh:V->η V->Hp->VK->Prop:=λx vs H Q=>∃l xs,x=.ref l/\vs=[]/\H l=ς (.e xs)/\Q .non (upd H l (.e []))
theorem tp:MtM X "list.clear" Bh:=by intro J0 s σ H x vs v us Q I Y W h;have⟨l,xs,rfl,rfl,U,q⟩:=h;cases Y;have O:=W.zero;subst O;have⟨z,J3,n,r,hl,e⟩:=I.lstM U;refine qv8 F.slot_list_clear ⟨_,e,rfl⟩ F.entry_list_clear (F.args_list_clear_1 _) (AutoSeq1.list_clear_list_0 l J3.toArray n (by rw[qb5];lia)) ⟨e,?_⟩;exact⟨.non,_,I.lset (its':=[]) (ys:=[]) U e rfl .nil (qg8 _),rfl,q⟩
theorem oF{α:Type}(xs:η α)(k:Nat):(qb1 k xs).flatten.length=k*xs.length:=by
 induction k with
 |zero=>simp
 |succ k O=>rw[qg2,ql2,qc4,O,Nat.succ_mul,zf5]
end
section
variable{κ:Type}[DecidableEq κ]
noncomputable def bp(J1:η (κ×V))(k:κ):ζ V:=(J1.find? λkv=>decide (kv.1=k)).map (·.2)
noncomputable def aq(J1:η (κ×V))(k:κ)(v:V):η (κ×V):=if(J1.any λkv=>decide (kv.1=k))=θ then J1.map (λkv=>if kv.1=k then(kv.1,v)else kv)else J1++[(k,v)]
theorem el{p:κ×V}{r:η (κ×V)}{k:κ}(e:p.1=k):bp (p::r) k=ς p.2:=by simp[bp,ql4,e]
theorem cM{p:κ×V}{r:η (κ×V)}{k:κ}(e:¬ p.1=k):bp (p::r) k=bp r k:=by simp[bp,ql4,e]
theorem er(k:κ):∀J1:η (κ×V),(J1.any λkv=>decide (kv.1=k))=(bp J1 k).isSome
 |[]=>rfl
 |p::r=>by
  rw[qm0];by_cases e:p.1=k
  .rwa[el e,decide_eq_true e,Bool.true_or,Option.isSome_some]
  .rw[cM e,decide_eq_false e,ze3];exact er k r
theorem cN(J1:η (κ×V))(k:κ)(v:V):(aq J1 k v).length<=J1.length+1:=by
 unfold aq;split
 .rw[qa6];lia
 .rw[qc4,qb8,qf6];lia
theorem tq{J1:η (κ×V)}{k:κ}(v:V)(h:bp J1 k=ψ):aq J1 k v=J1++[(k,v)]:=by unfold aq;rw[er,h];exact if_neg Ω
theorem RelO.isSome_eq{o:ζ V}{u:ζ Value}(r:RelO o u):o.isSome=u.isSome:=by
 cases o with
 |none=>cases u with
  |none=>rfl
  |some _=>exact(show False from r).elim
 |some _=>cases u with
  |none=>exact(show False from r).elim
  |some _=>rfl
theorem RelO.getD{o:ζ V}{u:ζ Value}{d:V}{d':Value}(r:RelO o u)(rd:RelV d d'):RelV (o.getD d) (u.getD d'):=by
 cases o with
 |none=>cases u with
  |none=>exact rd
  |some _=>exact(show False from r).elim
 |some _=>cases u with
  |none=>exact(show False from r).elim
  |some _=>exact r
theorem KV.val{J1:η (κ×V)}{vs:η (κ×Value)}(r:KV J1 vs)(k:κ):RelO (bp J1 k) (ze9 vs k):=by
 unfold KV at r;induction r with
 |nil=>exact ql6
 |@cons p q ps U h t W=>
  have⟨h1,h2⟩:=h;by_cases e:p.1=k
  .have O:q.1=k:=h1.symm.trans e;have b:ze9 (q::U) k=ς q.2:=by simp[ze9,ql4,O]
   rw[el e,b];exact h2
  .have O:¬ q.1=k:=λz=>e (h1.trans z)
   have b:ze9 (q::U) k=ze9 U k:=by simp[ze9,ql4,O]
   rw[cM e,b];exact W
theorem KV.any{J1:η (κ×V)}{vs:η (κ×Value)}(r:KV J1 vs)(k:κ):(J1.any λkv=>decide (kv.1=k))=vs.any λkv=>decide (kv.1=k):=by
 unfold KV at r;induction r with
 |nil=>rfl
 |cons h t O=>rw[qm0,qm0,O,h.1]
theorem KV.repl {J1:η (κ×V)} {vs:η (κ×Value)} (r:KV J1 vs) (k:κ) (U:RelV y u) :
  KV (J1.map λkv=>if kv.1=k then(kv.1,y)else kv) (vs.map λkv=>if kv.1=k then(kv.1,u)else kv):=by
 unfold KV at r ⊢;induction r with
 |nil=>exact .nil
 |@cons p q ps W h t O=>
  rw[qa3,qa3];refine .cons ?_ O;have⟨h1,h2⟩:=h;by_cases e:p.1=k
  .rw[if_pos e,if_pos (h1.symm.trans e)];exact⟨h1,U⟩
  .rw[if_neg e,if_neg (λz=>e (h1.trans z))];exact⟨h1,h2⟩
theorem KV.put{J1:η (κ×V)}{vs:η (κ×Value)}(r:KV J1 vs)(k:κ)(O:RelV y u):KV (aq J1 k y) (stored vs k u):=by
 unfold aq stored;rw[r.any k];by_cases e:(vs.any λkv=>decide (kv.1=k))=θ
 .rw[if_pos e,if_pos e];exact r.repl k O
 .rw[if_neg e,if_neg e];exact Paired.snoc r ⟨rfl,O⟩
theorem KV.length{J1:η (κ×V)}{vs:η (κ×Value)}(r:KV J1 vs):J1.length=vs.length:=Paired.length r
end
variable{P:qe3}
theorem g8{w:J5}{k:Key}(r:RelV (kV k) u):(aj P w).is k u=θ:=by
 cases k with
 |inl i=>have⟨t,e⟩:=(show ∃t,u=zd7 i t from r);subst e;exact lr P w i t
 |inr x=>have⟨t,e⟩:=(show ∃t,u=zd8 x t from r);subst e;exact lu P w x t
theorem je{w:J5}:∀{ks:η Key}{us:η Value},Vals (ks.map kV) us->ItemsAre (aj P w) ks us
 |[],_,r=>by rw[qf8]at r;cases r;exact .nil
 |k::ks,_,r=>by
  rw[qa3]at r;cases r with
  |cons h t=>exact .cons (g8 h) (je t)
abbrev KT(H:Hp):η (η Key×V)->η (η Key×J4×Value)->Prop:=Paired λp q=>p.1=q.1/\H q.2.1=ς (.t (p.1.map kV))/\RelV p.2 q.2.2
variable{J1:η (η Key×V)}
theorem KT.val{xs:η (η Key×J4×Value)}(r:KT H J1 xs)(k:η Key):RelO (bp J1 k) ((atKey xs k).map (·.2)):=by
 induction r with
 |nil=>exact ql6
 |@cons p q ps U h t W=>
  have⟨h1,_,h2⟩:=h;by_cases e:p.1=k
  .have O:q.1=k:=h1.symm.trans e;have b:atKey (q::U) k=ς q.2:=by simp[atKey,ql4,O]
   rw[el e,b];exact h2
  .have O:¬ q.1=k:=λz=>e (h1.trans z)
   have b:atKey (q::U) k=atKey U k:=by simp[atKey,ql4,O]
   rw[cM e,b];exact W
theorem KT.repl {xs:η (η Key×J4×Value)} (r:KT H J1 xs) (k:η Key) (W:RelV y u) :
  KT H (J1.map λkv=>if kv.1=k then(kv.1,y)else kv) (xs.map (putAt k u)):=by
 induction r with
 |nil=>exact .nil
 |@cons p q ps Y h t O=>
  rw[qa3,qa3];refine .cons ?_ O;have⟨h1,h2,U⟩:=h;unfold putAt;by_cases e:p.1=k
  .rw[if_pos e,if_pos (h1.symm.trans e)];exact⟨h1,h2,W⟩
  .rw[if_neg e,if_neg (λz=>e (h1.trans z))];exact⟨h1,h2,U⟩
theorem KT.put {xs:η (η Key×J4×Value)} (r:KT H J1 xs) (k:η Key) {b:J4} (hb:H b=ς (.t (k.map kV))) (O:RelV y u) :
  KT H (aq J1 k y) (storedH xs k b u):=by
 have e:(J1.any λkv=>decide (kv.1=k))=(atKey xs k).isSome:=by rw[er,(r.val k).isSome_eq,qy9]
 unfold aq storedH;rw[e];by_cases q:(atKey xs k).isSome=θ
 .rw[if_pos q,if_pos q];exact r.repl k O
 .rw[if_neg q,if_neg q];exact Paired.snoc r ⟨rfl,hb,O⟩
variable{H':Hp}
theorem KT.keeps{xs:η (η Key×J4×Value)}(r:KT H J1 xs)(O:∀b ys,H b=ς (.t ys)->H' b=ς (.t ys)):KT H' J1 xs:=Paired.mapP r λ_ _ z=>⟨z.1,O _ _ z.2.1,z.2.2⟩
section
variable{P:qe3}{w:J5}{H:Hp}{h:Heap}{a:J4}
theorem zx{u:HO}(ok:HOk P w H h)(e:Rd H a u):ObjOk P w H h a u:=e.ok ok
theorem gi{J1:η (Key×V)}(ok:HOk P w H h)(e:Rd H a (.dK J1)):J1.length<=qa5/\(a==qi7)=ξ/\∃vs,KV J1 vs/\h.DictOf (aj P w) a vs:=show ObjOk P w H h a (.dK J1)from zx ok e
theorem zy{J1:η (Key×V)}(ok:HOk P w H h)(e:H a=ς (.dK J1)):J1.length<=qa5/\(a==qi7)=ξ/\∃vs,KV J1 vs/\h.DictOf (aj P w) a vs:=gi ok (.inl e)
theorem fL{ks:η Key}(ok:HOk P w H h)(e:H a=ς (.t (ks.map kV))):(qy8 (aj P w)).is h ks a:=by have⟨_,J3,r,⟨o,h1,h2,n,O⟩,_⟩:=(show ObjOk P w H h a (.t (ks.map kV))from ok a _ e);exact⟨o,J3.toArray,n,h1,h2,O,‹je r›⟩
theorem bB (ok:HOk P w H h) (e:Rd H a (.dT J1)):J1.length<=qa5/\(a==qi7)=ξ∧
  ∃xs,KT H J1 xs/\h.DictOfH (qy8 (aj P w)) a xs:=by
 have⟨z,y,xs,r,o,es,ep,h1,h2,Y,h4,Z⟩:=(show ObjOk P w H h a (.dT J1)from zx ok e);refine⟨z,y,xs,r,o,es,ep,h1,h2,Y,h4,λx O=>?_,Z⟩
 have all:∀{l:η (η Key×V)}{m:η (η Key×J4×Value)},KT H l m->∀x∈m,(qy8 (aj P w)).is h x.1 x.2.1:=by
  intro l m q;induction q with
  |nil=>intro x O;exact nomatch O
  |@cons p q ps qs U t W=>
   intro x O;rcases qc3.mp O with e|O
   .subst e;exact fL ok (by rw[<- U.1];exact U.2.1)
   .exact W x O
 exact all r x O
theorem D5(ok:HOk P w H h)(e:H a=ς (.dT J1)):J1.length<=qa5/\(a==qi7)=ξ∧∃xs,KT H J1 xs/\h.DictOfH (qy8 (aj P w)) a xs:=bB ok (.inl e)
end
def DGet(H:Hp)(a:J4)(y:V)(r:ζ V):Prop:=(∃J1 k,Rd H a (.dK J1)/\y=kV k/\r=bp J1 k)\/∃J1 k b,Rd H a (.dT J1)/\y=.ref b/\H b=ς (.t (k.map kV))/\r=bp J1 k
def DPut(H:Hp)(a:J4)(y v:V)(H':Hp):Prop:=
 (∃J1 k,H a=ς (.dK J1)/\y=kV k/\J1.length<qa5/\H'=upd H a (.dK (aq J1 k v)))\/
 ∃J1 k b,H a=ς (.dT J1)/\y=.ref b/\H b=ς (.t (k.map kV))/\J1.length<qa5/\H'=upd H a (.dT (aq J1 k v))
variable{a:J4}
theorem DGet.k{J1:η (Key×V)}{k:Key}(e:H a=ς (.dK J1)):DGet H a (kV k) (bp J1 k):=.inl ⟨J1,k,.inl e,rfl,rfl⟩
theorem DGet.t{b:J4}{k:η Key}(e:H a=ς (.dT J1))(O:H b=ς (.t (k.map kV))):DGet H a (.ref b) (bp J1 k):=.inr ⟨J1,k,b,.inl e,rfl,O,rfl⟩
theorem DPut.k{J1:η (Key×V)}{k:Key}{v:V}(e:H a=ς (.dK J1))(hl:J1.length<qa5):DPut H a (kV k) v (upd H a (.dK (aq J1 k v))):=.inl ⟨J1,k,e,rfl,hl,rfl⟩
theorem DPut.t {b:J4} {k:η Key} {v:V} (e:H a=ς (.dT J1)) (O:H b=ς (.t (k.map kV))) (hl:J1.length<qa5) :
  DPut H a (.ref b) v (upd H a (.dT (aq J1 k v))):=.inr ⟨J1,k,b,e,rfl,O,hl,rfl⟩
variable{Q:Value->qa7->Prop}{h':Heap}
section
variable{X:Cx}{J0:η (J4×Obj)}{σ:St}{H:Hp}{s:qa7}{a:J4}{y v:V}{u r:Value}{o:ζ V}{A:qk4}{E:Value->qa7->Prop}
theorem Inv.big(I:Inv X J0 σ H s):qi7<s.heap.objs.size:=by have h:qf2<s.heap.objs.size:=(I.mod.glob.keeps I.bk).lt;exact qm2 Ω h
theorem qE (hu:A.units+1<cLine) (I:Inv X J0 σ H s) (g:DGet H a y (ς v)) (ry:RelV y u) (h:∀ W s',Inv X J0 σ H s'->RelV v W->Q W s') :
  wpAny (model X.prog X.w) A (zg4 (.ref a) u) Q E s:=by
 rcases g with ⟨J1,k,e,Y,l⟩|⟨J1,k,b,e,Y,eb,l⟩
 .subst Y;have⟨z,hd,vs,U,dd⟩:=gi I.hok e;have⟨W,Z,O⟩:=RelO.some_of (v:=v) (o:=ze9 vs k) (by rw[l];exact U.val k);exact wpAny_getItem_of (g8 ry) dd.mapOf Z (h W _ (I.tok _) O)
 .subst Y;cases (show u=qb6 b from ry);have⟨z,hd,xs,U,dd⟩:=bB I.hok e;have⟨W,Z,O⟩:=RelO.some_of (v:=v) (o:=(atKey xs k).map (·.2)) (by rw[l];exact U.val k);have⟨p,hp,hp2⟩:=qe1.mp Z;refine wpAny_getItem_heap (qi1 hu) (fL I.hok eb) dd hp ?_;rw[hp2];exact h W _ (I.tok _) O
theorem d_in (hu:A.units+1<cLine) (I:Inv X J0 σ H s) (g:DGet H a y o) (Z:RelV y u) (h:∀ s',Inv X J0 σ H s'->Q (.bool o.isSome) s') :
  wpAny (model X.prog X.w) A (qe2 .In u (.ref a)) Q E s:=by
 rcases g with ⟨J1,k,e,U,l⟩|⟨J1,k,b,e,U,eb,l⟩
 .subst U;have⟨z,W,vs,O,Y⟩:=gi I.hok e;refine wpAny_in_of (g8 Z) W Y.mapOf ?_;rw[<- (O.val k).isSome_eq,<- l];exact h _ (I.tok _)
 .subst U;cases (show u=qb6 b from Z);have⟨z,W,xs,O,Y⟩:=bB I.hok e;refine wpAny_in_heap (qi1 hu) (fL I.hok eb) W Y ?_;have q:=(O.val k).isSome_eq;rw[qy9]at q;rw[<- q,<- l];exact h _ (I.tok _)
theorem xc (hu:A.units+1<cLine) (I:Inv X J0 σ H s) (g:DGet H a y o) (Z:RelV y u) (h:∀ s',Inv X J0 σ H s'->Q (.bool (!o.isSome)) s') :
  wpAny (model X.prog X.w) A (qe2 .NotIn u (.ref a)) Q E s:=by
 rcases g with ⟨J1,k,e,U,l⟩|⟨J1,k,b,e,U,eb,l⟩
 .subst U;have⟨z,W,vs,O,Y⟩:=gi I.hok e;refine wpAny_notIn_of (g8 Z) W Y.mapOf ?_;rw[<- (O.val k).isSome_eq,<- l];exact h _ (I.tok _)
 .subst U;cases (show u=qb6 b from Z);have⟨z,W,xs,O,Y⟩:=bB I.hok e;refine wpAny_notIn_heap (qi1 hu) (fL I.hok eb) W Y ?_;have q:=(O.val k).isSome_eq;rw[qy9]at q;rw[<- q,<- l];exact h _ (I.tok _)
theorem gx {ob:HO} (I:Inv X J0 σ H s) (O:Mut (H a)) (hs:qg9 a s.heap h') (he:∃ q,h'.get? a=ς q) (new:ObjOk X.prog X.w (upd H a ob) h' a ob) :
  Inv X J0 σ (upd H a ob) {s with heap:=h',toks:=t'}:=
 I.write (x:=a) (e:=a) O (.inl rfl) (λb q hb z=>(hs.2 b hb).trans z) he new
theorem mX {w:J5} {J1:η (Key×V)} {vs:η (Key×Value)} (z:J1.length<=qa5) (W:(a==qi7)=ξ) (O:KV J1 vs) (U:h'.DictOf (aj P w) a vs) :
  ObjOk P w H' h' a (.dK J1):=⟨z,W,vs,O,U⟩
theorem qF {Q:Unit->qa7->Prop} (hu:A.units+1<cLine) (I:Inv X J0 σ H s) (g:DPut H a y v H') (ry:RelV y u) (rv:RelV v r) (h:∀ s',Inv X J0 σ H' s'->Q () s') :
  wpAny (model X.prog X.w) A (setItem (.ref a) u r) Q E s:=by
 rcases g with ⟨J1,k,e,ey,l,eH⟩|⟨J1,k,b,e,ey,eb,l,eH⟩
 .subst ey eH;have⟨z,Z,vs,O,dd⟩:=zy I.hok e;have hz:vs.length<=qa5:=by rw[<- O.length];exact z
  have hl:(aq J1 k v).length<=qa5:=by have:=cN J1 k v;lia
  refine wpAny_setItem_pairs (hsz:=hz) (g8 ry) dd λh' U Y=>h _ ?_
  have he:∃q,h'.get? a=ς q:=let ⟨q,_,_,W,_⟩:=U;⟨q,W⟩;exact gx I (by rw[e];exact ql6) Y he (mX hl Z (O.put k rv) U)
 .subst ey eH;cases (show u=qb6 b from ry);have⟨z,Z,xs,O,dd⟩:=D5 I.hok e;have hz:xs.length<=qa5:=by rw[<- Paired.length O];exact z
  have hl:(aq J1 k v).length<=qa5:=by have:=cN J1 k v;lia
  refine wpAny_setItem_heap (hsz:=hz) (qi1 hu) (fL I.hok eb) dd λh' U Y=>h _ ?_
  have⟨q,es,ep,W,h2,h3,h4,_,h5⟩:=U;refine gx I (by rw[e];exact ql6) Y ⟨q,W⟩ ⟨hl,Z,_,(O.put k eb rv).keeps λc ys ec=>?_,q,es,ep,W,h2,h3,h4,h5⟩;rw[af (wC ec e (λz=>nomatch z))];exact ec
end
section
variable{X:Cx}{J0:η (J4×Obj)}{σ:St}{H:Hp}{s:qa7}{a:J4}{J1:η (Key×V)}{k:Key}{u:Value}{A:qk4}{E:Value->qa7->Prop}
theorem xf(I:Inv X J0 σ H s)(e:H a=ς (.dK J1))(h:∀s',Inv X J0 σ (upd H a (.dK [])) s'->Q .none s'):wpAny (model X.prog X.w) A (call (.builtin "dict.clear") [.ref a]) Q E s:=by have⟨z,Z,vs,U,W⟩:=zy I.hok e;refine zc3 PySem.F.slot_dict_clear W.typeIs PySem.F.entry_dict_clear (PySem.F.args_dict_clear_1 _) (meets_dict_clear (aj X.prog X.w) a) ⟨vs,W,by rw[<- U.length];exact z,λh' O Y=>h _ ?_⟩;have he:∃q,h'.get? a=ς q:=let ⟨q,_,_,hq,_⟩:=O;⟨q,hq⟩;exact gx (t':=s.toks) I (by rw[e];exact ql6) Y he (mX (qg8 _) Z .nil O)
end
variable{X:Cx}
theorem lF{s:qa7}{o:ζ V}(I:Inv X J0 σ H s)(g:DGet H a y o):s.TypeIs (.ref a) "dict":=by
 rcases g with ⟨J1,k,e,_,_⟩|⟨J1,k,b,e,_,_,_⟩
 .have⟨_,_,vs,_,O⟩:=gi I.hok e;exact O.typeIs
 .have⟨_,_,xs,_,O⟩:=bB I.hok e;exact O.typeIs
theorem tz{w:J5}(h:Heap)(hb:qi7<h.objs.size):ObjOk P w H (h.push {cls:=.type "dict",data:=.dict #[]}) h.objs.size (.dK []):=⟨qg8 _,beq_eq_false_iff_ne.mpr (qj5 (qc5 hb)),[],.nil,Heap.DictOf.new h⟩
theorem tB{w:J5}(h:Heap)(hb:qi7<h.objs.size):ObjOk P w H (h.push {cls:=.type "dict",data:=.dict #[]}) h.objs.size (.dT []):=⟨qg8 _,beq_eq_false_iff_ne.mpr (qj5 (qc5 hb)),[],.nil,_,#[],0,qc2 _ rfl,⟨rfl,rfl,rfl⟩,rfl,rfl,qy1⟩
def Bi:TE:=λ_ H Q=>∀p,H p=ψ->Q (.ref p) (upd H p (.dK []))
def Bj:TE:=λ_ H Q=>∀p,H p=ψ->Q (.ref p) (upd H p (.dT []))
section
variable{X:Cx}{pos:Pos}
theorem tD:PE X (.Dict [] [] pos) Bi:=λJ0 s σ H Q I h=>wpAny_Dict_empty ⟨.ref s.heap.objs.size,_,I.laid (a:=s.heap.objs.size) (o:=.dK []) (t':=s.toks) (λ_ _ q=>gP _ q) (nL _) (tz s.heap I.big),rfl,h _ (I.hok.fresh (nL _))⟩
theorem tE:PE X (.Dict [] [] pos) Bj:=λJ0 s σ H Q I h=>wpAny_Dict_empty ⟨.ref s.heap.objs.size,_,I.laid (a:=s.heap.objs.size) (o:=.dT []) (t':=s.toks) (λ_ _ q=>gP _ q) (nL _) (tB s.heap I.big),rfl,h _ (I.hok.fresh (nL _))⟩
end
structure M2(X:Cx)(o:J8)(m:Str)(apos:Pos)(e f:J8)(cpos:Pos):Prop where
 base:qj4 o m X.env (eval o X.env)=eval o X.env
 few:((qi3 cpos (qb3 [e,f] X.env)).all (λx=>!x.1)&&(qp6 cpos (qi9 [] X.env)).all (λx=>x.1.isSome)
  && decide (([e,f]:List J8).length+([]:List qy0).length+(if([]:List qy0).isEmpty then 0 else 1)<30))=θ
 line:(apos.endLine==cpos.line)=θ
 trees:qi3 cpos (qb3 [e,f] X.env)=[(ξ,eval e X.env),(ξ,eval f X.env)]
def IsD(H:Hp)(a:J4):Prop:=(∃J1,Rd H a (.dK J1))\/∃J1,Rd H a (.dT J1)
theorem Bk {s:qa7} (I:Inv X J0 σ H s) (d:IsD H a) :
  s.TypeIs (.ref a) "dict"/\(∀b,qb6 a=.ref b->∃ob,s.heap.get? b=ς ob/\ob.dict=ψ)/\(a==qi7)=ξ:=by
 rcases d with ⟨J1,e⟩|⟨J1,e⟩
 .have⟨_,U,vs,_,O⟩:=gi I.hok e;refine⟨O.typeIs,λb q=>?_,U⟩;cases q;have⟨ob,_,_,h1,h2,_⟩:=O;exact⟨ob,h1,h2.2.1⟩
 .have⟨_,U,xs,_,O⟩:=bB I.hok e;refine⟨O.typeIs,λb q=>?_,U⟩;cases q;have⟨ob,_,_,h1,h2,_⟩:=O;exact⟨ob,h1,h2.2.1⟩
section
variable{X:Cx}{J0:η (J4×Obj)}{σ:St}{H:Hp}{s:qa7}{a:J4}{y d:V}{u r:Value}{o:ζ V}{A:qk4}{E:Value->qa7->Prop}
theorem Bm (hu:A.units+1<cLine) (I:Inv X J0 σ H s) (g:DGet H a y o) (Z:RelV y u) (rd:RelV d r) (h:∀ w' s',Inv X J0 σ H s'->RelV (o.getD d) w'->Q w' s') :
  wpAny (model X.prog X.w) A (call (.builtin "dict.get") [.ref a,u,r]) Q E s:=by
 rcases g with ⟨J1,k,e,W,l⟩|⟨J1,k,b,e,W,eb,l⟩
 .subst W;have⟨z,Y,vs,O,U⟩:=gi I.hok e;refine zc3 PySem.F.slot_dict_get U.typeIs PySem.F.entry_dict_get (PySem.F.args_dict_get_3 _ _ _) (meets_dict_get_default (aj X.prog X.w) a (g8 Z) Y r) ⟨_,U.mapOf,h _ _ (I.tok _) ?_⟩;rw[l];exact(O.val k).getD rd
 .subst W;cases (show u=qb6 b from Z);have⟨z,Y,xs,O,U⟩:=bB I.hok e;refine zc3 PySem.F.slot_dict_get U.typeIs PySem.F.entry_dict_get (PySem.F.args_dict_get_3 _ _ _) (meetsH_dict_get_default (qy8 (aj X.prog X.w)) a b Y r) ⟨qi1 hu,k,xs,fL I.hok eb,U,h _ _ (I.tok _) ?_⟩;rw[l];exact(O.val k).getD rd
end
def Bn(td ty tx:TE):TE:=λσ H Q=>td σ H λx H1=>∃a,x=.ref a/\IsD H1 a/\ty σ H1 λy H2=>tx σ H2 λz O=>∃o,DGet O a y o/\Q (o.getD z) O
section
variable{X:Cx}{o e f:J8}{apos cpos:Pos}{td ty tx:TE}
theorem tF(hu:X.A.units+1<cLine)(ho:PE X o td)(he:PE X e ty)(hf:PE X f tx)(m:M2 X o "get" apos e f cpos):PE X (.Call (.Attribute o "get" apos) [e,f] [] cpos) (Bn td ty tx):=by
 intro J0 s σ H Q I h;refine wpAny_Call_method m.base m.few m.line PySem.F.plainAttrs_dict PySem.F.slot_dict_get PySem.F.type_dict_get (thn (ho J0 s σ H _ I h) λu s1 O=>?_);have⟨x,H1,W,rx,a,ex,d,q1⟩:=O;subst ex;obtain rfl:u=qb6 a:=rx;have⟨t1,t2,_⟩:=Bk W d;refine⟨t1,t2,?_⟩;rw[m.trees]
 refine qt2 rfl (Calls.evalArgs_plain (qx1 (thn (he J0 s1 σ H1 _ W q1) λiv Y ⟨y,H2,I2,ry,q2⟩=>qx1 (thn (hf J0 Y σ H2 _ I2 q2) λfv s3 ⟨z,H3,I3,rz,ov,g,Z⟩=>Calls.spliced_nil ?_))))
 exact Bm hu I3 g ry rz λw' s4 I4 U=>⟨_,H3,I4,U,Z⟩
end
end L2
namespace Att
open PySem PySem.W PySem.Calls PyProof.Rows
variable{P:Params}
theorem gq{h:Heap}:∀(ns:η Int)(vs:η Value),WellAll P h vs (ns.map WData.int)->IntsAre vs ns:=by
 intro ns;induction ns with
 |nil=>intro vs w;rw[qf8]at w;cases w;exact .nil
 |cons n ns O=>
  intro vs w;rw[qa3]at w;cases w with
  |cons a b=>cases a;exact .cons _ _ (O _ b)
variable{l:OpenLaw}
theorem qG{n:Nat}(hn:l.most=ς n){h:Heap}{args:η WData}{O:η Value}
 (U:l.row.toRowW.claim.pre args=θ) (hwl:WellAll P h O args) :
  ∃a vs ns,O=[qb6 a]/\args=[WData.list (ns.map WData.int)]/\h.get? a=ς {cls:=.type "list",data:=.seq vs.toArray}/\IntsAre vs ns/\ns.length<=n:=by
 have hsh:WShape.hasAll [] args [.list .int]=θ:=(pre_splitW U).1;have hc:l.pre.holds [] {args:=args}=θ:=(pre_splitW U).2;have⟨d,r,rfl,h1,h2⟩:=hasAllW_cons hsh;obtain rfl:=hasAllW_nil h2;have⟨xs,rfl,h3⟩:=hasW_list h1;have⟨ns,rfl⟩:=items_int h3
 have Y:ns.length<=n:=by
  unfold OpenLaw.pre at hc
  have h4:(WTm.not (.lt (.lit (.int (n:Int))) (.len (.arg 0)))).holds [] {args:=[.list (ns.map .int)]}=θ:=by have h4:=(holds_andW hc).1;rw[hn]at h4;exact h4
  have Z:=condW_of h4 (w_not (w_lt w_lit (w_len_list (w_arg rfl))));rw[qa6]at Z;refine Nat.le_of_not_lt λq=>?_
  have q':(n:Int)<((ns.length:Nat):Int):=by lia
  first
   |(rw[decide_eq_true q']at Z;exact absurd Z Ω)
   |(simp at Z;lia)
 cases hwl with
 |cons w1 w2=>
  cases w2;cases w1 with
  |list ho W=>exact⟨_,_,ns,rfl,rfl,ho,gq ns _ W,Y⟩
theorem qH(l:OpenLaw)(args:η WData):l.row.toRowW.claim.post args (.bool θ) args=θ:=
 postW_of (r:=l.row.toRowW) (X:=(θ==θ))
  (show WShape.has [] (.bool θ) .bool=θ by first|rfl|decide|simp[WShape.has,WShape.arms,WShape.armsAll])
  (show(WTm.eq .res (.lit (.bool θ))).value [] {args:=args,res:=ς (.bool θ),after:=args}=ς (.bool (θ==θ))from w_eq_bool (w_res rfl) w_lit) rfl
theorem zz{n:Nat}{q:qe3}{W:η Str}{XP:(Str->ζ Value)->Heap->Prop}{YP:J5->Heap->Prop}{d:DefRec}
 (hn:l.most=ς n) (hdf:d.params.defaults=[])
 (call:∀(w:J5)(U O:qa7)(mg mb:Str->ζ Value)(fa:J4)(o:Obj)(pm cd doc:Value)(a:J4)(vs:η Value)(ns:η Int),
 Ground q W [] XP w U mg mb O.heap->YP w O.heap→
 O.heap.get? fa=ς o->o.data=.func (docDef d.name d.params d.body d.scope pm cd doc)->O.heap.CodeRec cd d.name->mg d.name=ς (.ref fa)→
 O.heap.get? a=ς {cls:=.type "list",data:=.seq vs.toArray}->IntsAre vs ns->ns.length<=n->O.gens=#[]→
 qu7 (model l.prog w) zd5 (.call (.ref fa) ⟨[.ref a],[]⟩) (λr s'=>r=.ok (.ret (.bool θ))/\OldK O.heap s'.heap/\s'.os=O.os/\zb5 s'.gens) O) :
  WalkO q W XP YP l.row.toRowW d [] (λf vs=>PySem.call f vs):=by
 intro w U O mg mb G Y fa o pm cd doc dV kV ho hd hcd hD hmg hg args vals as hpre hlay hrd hwl hlo;obtain rfl:dV=.none:=Dflts.none hD hdf;obtain rfl:kV=.none:=Dflts.noKw hD;have⟨a,vs,ns,rfl,rfl,hobj,Z,hlen⟩:=qG hn hpre hwl;refine enter_call (zb9 (call w U O mg mb fa o pm cd doc a vs ns G Y ho (fd_plain hd) hcd hmg hobj Z hlen hg) λr s' hq=>?_);have⟨rfl,h2,h3,h4⟩:=hq;exact⟨.inl ⟨.bool θ,.bool θ,[],rfl,λ_=>rfl,.bool θ,qH l _,λ_=>⟨qz0,λ_ hm=>(nomatch hm)⟩⟩,h2,h3,h4⟩
end Att
namespace L2
open PySem PySem.Spec PyProof.Rows
theorem jf:∀{vs:η Value}{ns:η Int},IntsAre vs ns->Vals (ns.map V.int) vs
 |_,_,.nil=>.nil
 |_,_,.cons n t h=>.cons ⟨t,rfl⟩ (jf h)
def mY(H:Hp):Prop:=∀b,H b=ψ\/∃o xs,H b=ς (.frz o (.e xs))
omit x in
theorem tG {P:qe3} {w:J5} {K:xA9} {mg mb:Str->ζ Value} {CX:CXT} {k:Nat} {fa a:J4} {fd:qu0} {x:Str} {sp:Sp} {s₁:qa7} {vs:η Value} {ns:η Int}
  (KX:K.In s₁.heap) (hns:s₁.heap.Ns qf2 mg) (hb:s₁.heap.Ns ze8 mb) (hbb:∀x:Str,x≠"__name__"->mb x=qg0 x) (hlim:s₁.heap.NoLimit) (hg:s₁.gens=#[]) (hT0:lw K=[])
  (ha:s₁.heap.get? a=ς {cls:=.type "list",data:=.seq vs.toArray}) (hi:IntsAre vs ns) (hl:ns.length<=qa5) (hr:Room k zd5)
  (F:∀base:Heap,K.In base->base.Ns qf2 mg->FnOk P w K mg base CX k fa fd [x] sp) (Y:∀(s:qa7)(u:Value),BindsTo s fd ⟨[u],[]⟩ [(x,u)])
  (hsp:∀H:Hp,mY H->SqL K H a (ns.map V.int)->sp [.ref a] H (λv _=>v=.bl θ) λ_ _ _=>False)
  (hCX:∀H e s',CX [] H s₁ (λ_ _ _=>False) e s'->False) :
  qu7 (model P w) zd5 (.call (.ref fa) ⟨[.ref a],[]⟩) (λr s'=>r=.ok (.ret (.bool θ))/\OldK s₁.heap s'.heap/\s'.os=s₁.os/\zb5 s'.gens) s₁:=by
 have rv:=jf hi;have lenV:=hi.length
 -- from an abstract heap in which nothing but the script may be tracked
 have U:∀ H:Hp,mY H->SqL K H a (ns.map V.int)->HOk P w H s₁.heap->(∀ b,H b≠ψ->b=a)->(H a≠ψ->K.lookup a=ψ)→
     qu7 (model P w) zd5 (.call (.ref fa) ⟨[.ref a],[]⟩) (λr s'=>r=.ok (.ret (.bool θ))/\OldK s₁.heap s'.heap/\s'.os=s₁.os/\zb5 s'.gens) s₁:=by
  intro H hO hS hok hA hK;have base_of:∀{b:J4}{o:Obj},s₁.heap.get? b=ς o->H b=ψ->(jR s₁.heap H).get? b=ς o:=λe n=>si e n
  have noA:∀{b:J4}{o:Obj}{es:Array DictEntry}{ep:Nat},s₁.heap.get? b=ς o->o.data=.dict es ep->H b=ψ:=λ{b o es ep} e d=>by
   cases q:H b with
   |none=>rfl
   |some u=>
    have e':b=a:=hA b (by rw[q];simp);subst e';rw[ha]at e;cases e
    have d':Data.seq vs.toArray _=Data.dict es ep:=d;cases d'
  have O:∀{b:J4}{m:Str->ζ Value},s₁.heap.Ns b m->(jR s₁.heap H).Ns b m:=λ{b m} Z=>by have⟨o,es,ep,e,d,r⟩:=Z;exact⟨o,es,ep,base_of e (noA e d),d,r⟩
  have hKb:K.In (jR s₁.heap H):=λb o e=>base_of (KX b o e) (by
   cases q:H b with
   |none=>rfl
   |some u=>have e':b=a:=hA b (by rw[q];simp);subst e';rw[hK (by rw[q];simp)]at e;cases e)
  have hM:Mod K mg (jR s₁.heap H):=⟨hKb,O hns,⟨mb,O hb,hbb⟩,let ⟨mc,h1,h2⟩:=hlim;⟨mc,O h1,h2⟩⟩;have e0:Env0 P w K mg (jR s₁.heap H) zd5 [] s₁ H:=⟨rfl,hM,λb o e=>wD e,Nat.le_of_eq (ql _ _),trivial,λb hb=>absurd (show b∈([]:η J4)from hb) Ξ,hok,.of_eq hg,λp hp=>by rw[hT0]at hp;cases hp⟩;refine zb9 ((F _ hKb (O hns)).run zd5 [] s₁ H ⟨[.ref a],[]⟩ [.ref a] [.ref a] _ _ hr e0 (Y s₁ (.ref a)) (.cons rfl .nil) (hsp H hO hS)) λr s' h=>?_
  cases r with
  |error e=>exact(hCX H e s' h).elim
  |ok fl=>
   cases fl with
   |next=>exact qk9 h
   |brk=>exact qk9 h
   |cont=>exact qk9 h
   |ret u=>
    have⟨v,H',os,bare,un,hok',r',q⟩:=h;have q':v=.bl θ:=q;subst q';obtain rfl:u=qr5 θ:=r';refine⟨rfl,OldK.of_keep λb o e=>?_,os,bare⟩;cases q:H b with
    |none=>exact un.keep b o e q (by intro z;exact absurd (show b∈([]:η J4)from z) Ξ) Ξ
    |some u=>
     rcases hO b with z|⟨ob,xs,z⟩
     .rw[q]at z;cases z
     .have z2:=un.frzs b ob _ z;have⟨e1,_⟩:=hok b _ z;have⟨e2,_⟩:=hok' b _ z2;rw[e]at e1;cases e1
      exact e2
 cases hk:K.lookup a with
 |some o=>
  -- the script is one of the module's own objects
  have e:=KX a o hk;rw[ha]at e;cases e;refine U (λ_=>ψ) (λ_=>.inl rfl) (.inr ⟨_,vs.toArray,_,hk,rfl,rfl,rfl,by rw[qb5,lenV];exact hl,‹rv›⟩) (λb u z=>by have z':(ψ:ζ HO)=ς u:=z;cases z') (λb z=>absurd rfl z) λz=>absurd rfl z
 |none=>
  refine U (λb=>if b=a then ς (.frz {cls:=.type "list",data:=.seq vs.toArray} (.e (ns.map V.int)))else ψ) (λb=>?_) (.inl (.inr ⟨{cls:=.type "list",data:=.seq vs.toArray},if_pos rfl⟩)) (λb u z=>?_) (λb z=>?_) λ_=>hk
  .by_cases hb:b=a
   .exact .inr ⟨_,_,if_pos hb⟩
   .exact .inl (if_neg hb)
  .by_cases hb:b=a
   .have z':=(if_pos hb).symm.trans z;cases z';subst hb;exact⟨ha,by rw[qa6];exact hl,vs,_,rv,ha⟩
   .have z':=(if_neg hb).symm.trans z;cases z'
  .by_cases hb:b=a
   .exact hb
   .exact absurd (if_neg hb) z
theorem FX {l:PySem.W.OpenLaw} {n k:Nat} {q:qe3} {Z:η Str} {XP:(Str->ζ Value)->Heap->Prop} {YP:J5->Heap->Prop} {d:DefRec} {K:Params->xA9} {CX:J5->CXT} {sp:J5->Sp} {x:Str}
  (hn:l.most=ς n) (hn2:n<=qa5) (hdf:d.params.defaults=[]) (hr:Room k zd5)
  (hY:∀(w:J5)(h:Heap),YP w h->(K w.params).In h) (hT0:∀w:J5,lw (K w.params)=[])
  (F:∀(w:J5)(mg:Str->ζ Value)(fa:J4)(h:Heap),(K w.params).In h->h.Ns qf2 mg->mg d.name=ς (.ref fa)→
   ∃fd:qu0,(∀(s:qa7)(u:Value),BindsTo s fd ⟨[u],[]⟩ [(x,u)])∧∀base:Heap,(K w.params).In base->base.Ns qf2 mg->FnOk l.prog w (K w.params) mg base (CX w) k fa fd [x] (sp w))
  (hsp:∀(w:J5)(H:Hp)(a:J4)(ns:η Int),ns.length<=n->mY H->SqL (K w.params) H a (ns.map V.int)->sp w [.ref a] H (λv _=>v=.bl θ) λ_ _ _=>False)
  (hCX:∀(w:J5)(H:Hp)(s:qa7)(e:Value)(s':qa7),CX w [] H s (λ_ _ _=>False) e s'->False) :
  PySem.W.WalkO q Z XP YP l.row.toRowW d [] (λf vs=>PySem.call f vs):=by
 refine Att.zz hn hdf λw s₀ s₁ mg mb fa o pm cd doc a vs ns G Y ho hd hcd hmg hobj U O hg=>?_
 have KX:=hY w _ Y;have⟨fd,hb,hF⟩:=F w mg fa _ KX G.T.g hmg;exact tG KX G.T.g G.T.b G.T.builtins G.T.nolimit hg (hT0 w) hobj U (qd7 O hn2) hr hF hb (λH hO hS=>hsp w H a ns O hO hS) λH e s'=>hCX w H s₁ e s'
end L2
namespace L2
open PySem PySem.Spec PyProof.Rows
abbrev CX0:CXT:=λ_ _ _ _ _ _=>False
abbrev E0:XK:=λ_ _ _=>False
variable{X:Cx}
theorem jg:cm CX0 X E0:=λ_ _ _ _ _ _ _ h=>h.elim
variable{A:qk4}
theorem jh{k:Nat}(O:Room k A):A.units+1<cLine:=qk1 (Nat.add_le_add_left (by decide:1<=64) _) O.units
def Same(H H':Hp):Prop:=∀b o,H b=ς o->H' b=ς o
theorem Same.refl(H:Hp):Same H H:=λ_ _ h=>h
variable{H:Hp}
theorem Same.trans{H1 H2:Hp}(a:Same H H1)(b:Same H1 H2):Same H H2:=λc o h=>b c o (a c o h)
variable{H':Hp}
theorem Same.free(e:Same H H'){l:J4}(h:H' l=Option.none):H l=Option.none:=by
 cases q:H l with
 |none=>rfl
 |some o=>rw[e l o q]at h;cases h
variable{K:xA9}{a:J4}{xs:η V}
theorem Same.seq(e:Same H H')(h:SqL K H a xs):SqL K H' a xs:=by
 rcases h with (h|⟨o,h⟩)|h
 .exact .inl (.inl (e _ _ h))
 .exact .inl (.inr ⟨o,e _ _ h⟩)
 .exact .inr h
section
variable{κ:Type}[DecidableEq κ]
theorem xg{J1:η (κ×V)}{k:κ}{v:V}(h:bp J1 k=ς v):k∈J1.map (·.1):=by
 have q:(J1.any λkv=>decide (kv.1=k))=θ:=by
  rw[er,h]
  all_goals rfl
 have⟨p,hp,e⟩:=List.any_eq_true.mp q;exact qb9.mpr ⟨p,hp,of_decide_eq_true e⟩
end
variable{nm:String}
section
variable{prog:qe3}{w:J5}{κ:Type}[DecidableEq κ]{kn:HeapKind prog w κ}{A:qk4}{E:Value->qa7->Prop}{s:qa7}
theorem D6{b:J4}{oa ob:Obj}{es fs:Array DictEntry}{ep fp:Nat}{xs ys:η (κ×J4×Value)}{Q:Bool->qa7->Prop}{e:Nat->Bool}
 (ha:(a==qi7)=ξ) (hb:(b==qi7)=ξ) (ru:kn.room A)
 (h1:s.heap.get? a=ς oa) (h2:oa.data=.dict es ep) (h3:es.toList=xs.map (entryOfKey kn)) (h4:∀x∈xs,kn.is s.heap x.1 x.2.1)
 (g1:s.heap.get? b=ς ob) (g2:ob.data=.dict fs fp) (g3:fs.toList=ys.map (entryOfKey kn)) (g4:∀x∈ys,kn.is s.heap x.1 x.2.1) (g5:(ys.map (·.1)).Nodup)
 (hk:xs.map (·.1)=ys.map (·.1)) (hv:∀(i:Nat) x y,xs[i]?=ς x->ys[i]?=ς y->qf1 A s x.2.2 y.2.2 (e i)) (hq:Q ((qc8 xs.length).all e) s) :
  wpAny (model prog w) A (qo3 nm a b) Q E s:=by
 have n1:es.size=xs.length:=by rw[<- qh5,h3,qa6]
 have n2:fs.size=ys.length:=by rw[<- qh5,g3,qa6]
 have n3:xs.length=ys.length:=by have:=congrArg qj0 hk;simpa using this
 unfold qo3 qo8;rw[if_neg (by rw[ha];decide),if_neg (by rw[hb];decide)];refine wB (qa2 (wB (qa2 (wB (qg6 h1 h2 ?_)))));dsimp only;refine wB (qg6 g1 g2 ?_);rw[if_neg (by rw[n1,n2,n3];simp)];refine wB (qo9 h1 h2 (wB ?_));rw[qp8];rwa[zc4,qx4,qs7,Nat.div_one];rw[n1];refine wpAny_forIn_list _ (λr q z=>z=s/\q=(ψ,())/\∃i,r=List.range' i (xs.length-i)/\i<=xs.length/\(qc8 i).all e=θ) _ ?_ ?_ _ _ ⟨rfl,rfl,0,Ξ,qg8 _,rfl⟩
 .rintro i r q z ⟨rfl,rfl,j,W,hj,O⟩
  have Y:j<xs.length:=by
   rcases qi4 j xs.length with h|h
   .exact h
   .rw[zc5 h]at W;cases W
  rw[show xs.length-j=xs.length-(j+1)+1 by lia,List.range'_succ]at W;have⟨rfl,W⟩:=List.cons.inj W;have hx:xs[i]?=ς xs[i]:=gQ Y;have Z:ys[i]?=ς ys[i]:=gQ Θ
  have U:ys[i].1=xs[i].1:=by have:=congrArg (λl:η κ=>l[i]?) hk;rwa[qa8,hx,Z,qa9,qt5]at this;exact this.symm
  generalize xs[i]=x at hx U;generalize hyy:ys[i]=y at Z U;refine wB (qg6 h1 h2 ?_);rw[entry_at h3 i,hx];show wpAny _ _ (qo5 [qb6 x.2.1,x.2.2] _ >>= _) _ _ _;refine wB (qj3 (wB (wpAny_dictFind_heap (k:=x.1) ru (h4 x (qa4 hx)) g1 g2 g3 g4 g5 (λhno=>?_) (λj p hj=>?_))))
  .refine absurd ?_ (hno i y.2);rw[Z,<- U]
  .have:j=i:=by
    have h5:(ys.map (·.1))[j]?=ς x.1:=by rw[qa8,hj];rfl
    have h6:(ys.map (·.1))[i]?=ς x.1:=by rw[qa8,Z,<- U];rfl
    exact(List.getElem?_inj (gX h5).1 g5).mp (h5.trans h6.symm)
   subst this;refine wB (qg6 g1 g2 ?_);rw[entry_at g3 j,Z];refine qj3 (hv j x y hx Z prog w _ _ ?_);cases he:e j with
   |false=>
    have hf:(qc8 xs.length).all e=ξ:=by rw[List.all_eq_false];exact⟨j,qd5.mpr Y,by rw[he];decide⟩
    rw[hf]at hq;show wpAny _ _ (if(!false)=θ then _ else _) _ _ _;rw[if_pos Ω];exact qa2 (qa2 hq)
   |true=>show wpAny _ _ (if(!true)=θ then _ else _) _ _ _;rw[if_neg Ω];refine wB (qo9 h1 h2 ?_);rw[if_neg Ξ];exact qa2 ⟨rfl,rfl,j+1,W,Y,by rw[List.range_succ,List.all_append,O];simp[he]⟩
 .rintro q z ⟨rfl,rfl,j,W,hj,O⟩
  have:j=xs.length:=by
   rcases qi4 j xs.length with h|h
   .rw[show xs.length-j=xs.length-(j+1)+1 by lia,List.range'_succ]at W;cases W
   .lia
  subst this;rw[O]at hq;exact qa2 hq
end
theorem tH{α β:Type}{F:α->β->Prop}{l:η α}{m:η β}(r:Paired F l m):∀{i:Nat}{x:α}{y:β},l[i]?=ς x->m[i]?=ς y->F x y:=by
 induction r with
 |nil=>intro i x y h;simp at h
 |cons h _ O=>
  intro i x y h1 h2;cases i with
  |zero=>cases h1;cases h2;exact h
  |succ i=>exact O h1 h2
theorem jZ{α β:Type}{F:α->β->Prop}{l:η α}{m:η β}(r:Paired F l m):l.length=m.length:=by
 induction r with
 |nil=>rfl
 |cons _ _ O=>simp[O]
variable{J1:η (η Key×V)}
theorem oG{xs:η (η Key×J4×Value)}(r:KT H J1 xs):xs.map (·.1)=J1.map (·.1):=by
 induction r with
 |nil=>rfl
 |cons h _ O=>rwa[qa3,O,h.1]
def qI(vs us:η V):Bool:=(qc8 vs.length).all λi=>eqV (vs.getD i .non) (us.getD i .non)
def Bo(n:Bool):R2:=λx y H Q=>∃a b J1 O,x=.ref a/\y=.ref b/\Rd H a (.dT J1)/\Rd H b (.dT O)/\J1.map (·.1)=O.map (·.1)/\(J1.map (·.2)).all aX=θ/\(O.map (·.2)).all aX=θ/\Q (.bl (if n then !qI (J1.map (·.2)) (O.map (·.2))else qI (J1.map (·.2)) (O.map (·.2)))) H
variable{J0:η (J4×Obj)}{σ:St}
section
variable{X:Cx}
theorem tJ{s:qa7}{b:J4}{O:η (η Key×V)}{Q:Bool->qa7->Prop}{E:Value->qa7->Prop}(I:Inv X J0 σ H s)(ru:(qy8 (aj X.prog X.w)).room A)
 (h1:Rd H a (.dT J1)) (h2:Rd H b (.dT O)) (hk:J1.map (·.1)=O.map (·.1)) (f1:(J1.map (·.2)).all aX=θ) (f2:(O.map (·.2)).all aX=θ) (hq:Q (qI (J1.map (·.2)) (O.map (·.2))) s) :
  wpAny (model X.prog X.w) A (qo3 nm a b) Q E s:=by
 have⟨_,y1,xs,U,oa,es,ep,p1,_,p2,p3,p4,_⟩:=bB I.hok h1;have⟨_,y2,ys,W,ob,fs,fp,q1,_,q2,q3,q4,q5⟩:=bB I.hok h2;have k1:=oG U;have k2:=oG W;refine D6 (e:=λi=>eqV ((J1.map (·.2)).getD i .non) ((O.map (·.2)).getD i .non)) y1 y2 ru p1 p2 p3 p4 q1 q2 q3 q4 q5 (by rw[k1,k2,hk]) (λi x y Z hy=>?_) ?_
 .have hi:=(gX Z).1;have hj:=(gX hy).1;obtain⟨u,Y⟩:∃u,J1[i]?=ς u:=⟨_,gQ (by rw[jZ U];exact hi)⟩;obtain⟨v,e2⟩:∃v,O[i]?=ς v:=⟨_,gQ (by rw[jZ W];exact hj)⟩;have g1:=tH U Y Z;have g2:=tH W e2 hy;have d1:(J1.map (·.2)).getD i .non=u.2:=by rw[qb0,qa8,Y];rfl
  have d2:(O.map (·.2)).getD i .non=v.2:=by rw[qb0,qa8,e2];rfl
  rw[d1,d2];exact dL g1.2.2 g2.2.2 (qc0.mp f1 _ (qb9.mpr ⟨u,qa4 Y,rfl⟩)) (qc0.mp f2 _ (qb9.mpr ⟨v,qa4 e2,rfl⟩))
 .have:xs.length=(J1.map (·.2)).length:=by rw[qa6,jZ U]
  rw[this];exact hq
theorem op_eqT{k:Nat}(W:Room k X.A):OpR X (qe2 .Eq) (Bo ξ):=by intro J0 s σ H x y v u Q I rx ry h;have⟨a,b,J1,Z,rfl,rfl,h1,h2,U,O,Y,q⟩:=h;cases (show v=qb6 a from rx);cases (show u=qb6 b from ry);have un:=W.un;have⟨_,y1,xs,r1,d1⟩:=bB I.hok h1;have⟨_,y2,ys,r2,d2⟩:=bB I.hok h2;refine qi2 (op:=.Eq) d1.typeIs d2.typeIs PySem.F.slot_dict_eq (qf5 PySem.F.slot_dict_eq d1.typeIs PySem.F.entry_dict_eq ?_ (PySem.F.args_dict_eq_2 _ _)) Θ;show wpAny _ _ (qe6 "__eq__" ⟨[.ref a,.ref b],[]⟩ >>= _) _ _ s;unfold qe6;refine wB (wB (qh7 d1.typeIs ?_));show wpAny _ _ (pure (qb6 a,qb6 b)) _ _ s;refine qa2 (wB (qq5 (T:="dict") d2.typeIs PySem.F.sub_dict_dict ?_));rwa[qs8,qe9,if_false];refine wB (qa2 (wB (qa2 (wB (tJ I (qi1 Θ) h1 h2 U O Y ?_)))));refine qa2 ⟨_,rfl,λx=>qt6 x,?_⟩;rw[show ∀c:Bool,(c==θ)=c by decide];exact⟨_,H,I,show RelV (.bl _) _ from rfl,q⟩
theorem Bp{k:Nat}(W:Room k X.A):OpR X (qe2 .NotEq) (Bo θ):=by intro J0 s σ H x y v u Q I rx ry h;have⟨a,b,J1,Z,rfl,rfl,h1,h2,U,O,Y,q⟩:=h;cases (show v=qb6 a from rx);cases (show u=qb6 b from ry);have un:=W.un;have⟨_,y1,xs,r1,d1⟩:=bB I.hok h1;have⟨_,y2,ys,r2,d2⟩:=bB I.hok h2;refine qi2 (op:=.NotEq) d1.typeIs d2.typeIs PySem.F.slot_dict_ne (qf5 PySem.F.slot_dict_ne d1.typeIs PySem.F.entry_dict_ne ?_ (PySem.F.args_dict_ne_2 _ _)) Θ;show wpAny _ _ (qe6 "__ne__" ⟨[.ref a,.ref b],[]⟩ >>= _) _ _ s;unfold qe6;refine wB (wB (qh7 d1.typeIs ?_));show wpAny _ _ (pure (qb6 a,qb6 b)) _ _ s;refine qa2 (wB (qq5 (T:="dict") d2.typeIs PySem.F.sub_dict_dict ?_));rwa[qs8,qe9,if_false];refine wB (qa2 (wB (qa2 (wB (tJ I (qi1 Θ) h1 h2 U O Y ?_)))));refine qa2 ⟨_,rfl,λx=>qt6 x,?_⟩;rw[show ∀c:Bool,(c==ξ)=!c by decide];exact⟨_,H,I,show RelV (.bl _) _ from rfl,q⟩
end
noncomputable def mZ(names:η (Str×qx2))(cells:η (Str×J4)):η (Str×J4):=names.foldl (λcs O=>if O.2==qh3 then(O.1,(cells.lookup O.1).getD 0)::cs else cs) []
variable{cells:η (Str×J4)}{env:Env}
theorem oH (hc:env.cells=cells):∀ (names:η (Str×qx2)) (O:η (Str×J4)),(∀ x∈names,x.2=.free->∃ c,cells.lookup x.1=ς c)→
  (forIn names O (λ(x:Str×qx2)(r:η (Str×J4))=>if(x.2==qh3)=θ then(do let c <- cellOf env x.1;pure (qp0 ((x.1,c)::r)))else(pure (qp0 r):Sem _)))
   = (pure (names.foldl (λcs Y=>if Y.2==qh3 then(Y.1,(cells.lookup Y.1).getD 0)::cs else cs) O):Sem (η (Str×J4)))
 |[],O,_=>rfl
 |x::r,O,h=>by
  have Z:=λO=>oH hc r O λy hy=>h y (qe7 _ hy)
  rwa[List.forIn_cons,qs6];cases e:(x.2==qh3)with
  |false=>rwa[qe9,if_false];exact Z O
  |true=>
   have⟨c,W⟩:=h x qk0 ‹e›;have U:cellOf env x.1=pure c:=by unfold cellOf;rw[hc,W]
   rwa[if_true,U,W,Option.getD_some];exact Z _
variable{scope:J9}
theorem m5{env:Env}(h:∀x∈scope.names,x.2=.free->∃c,env.cells.lookup x.1=ς c):closureFor scope env=pure (mZ scope.names env.cells):=by have:=oH (env:=env) rfl scope.names [] h;unfold closureFor mZ;rw[<- this];rwa[bind_pure]
omit x in
theorem ji:∀ {names:η (Str×qx2)} {O:η (Str×J4)} {x:Str} {c:J4},(∀ y∈names,y.2=.free->∃ c,cells.lookup y.1=ς c)→
  (names.foldl (λcs W=>if W.2==qh3 then(W.1,(cells.lookup W.1).getD 0)::cs else cs) O).lookup x=ς c->(∀c,O.lookup x=ς c->cells.lookup x=ς c)->cells.lookup x=ς c
 |[],O,x,c,_,h,U=>U c h
 |y::r,O,x,c,hy,h,U=>by
  rwa[qs6]at h;refine ji (λz hz=>hy z (qe7 _ hz)) h ?_;intro c' h';split at h'
  .rename_i hf;have⟨c0,Z⟩:=hy y qk0 ‹hf›;rw[qk3]at h';split at h'
   .rename_i hx;have Y:x=y.1:=‹hx›
    rw[Z]at h';subst Y;rw[Z];simpa using h'
   .exact U c' h'
  .exact U c' h'
variable{names:η (Str×qx2)}
theorem gj{x:Str}{c:J4}(O:∀y∈names,y.2=.free->∃c,cells.lookup y.1=ς c)(h:(mZ names cells).lookup x=ς c):cells.lookup x=ς c:=ji O h λc h=>by simp at h
theorem jj:∀ {names:η (Str×qx2)} {O:η (Str×J4)} {x:Str},((x,qh3)∈names\/(O.lookup x).isSome)→
  ((names.foldl (λcs U=>if U.2==qh3 then(U.1,(cells.lookup U.1).getD 0)::cs else cs) O).lookup x).isSome
 |[],O,x,h=>‹h›
 |y::r,O,x,h=>by
  rwa[qs6];refine jj ?_;rcases h with h|h
  .rcases qc3.mp h with e|h
   .subst e;right;simp[qk3]
   .exact .inl h
  .right;split
   .rw[qk3];split
    .rfl
    .exact h
   .exact h
theorem lG{x:Str}(h:(x,qh3)∈names):∃c,(mZ names cells).lookup x=ς c:=qr7.mp (jj (.inl h))
structure CmpScope(N:List Str)(outer scope:J9)(M:List Str)(src:List (Option Nat)):Prop where
 kind:scope.kind=.function
 nocell:∀y∈scope.names,y.2≠.cell
 free:∀y∈scope.names,y.2=.free->outer.names.lookup y.1=ς .cell\/outer.names.lookup y.1=ς .free
 names:∀y∈scope.names,y.2=.local->scope.names.lookup y.1=ς .local
 lf:∀y∈scope.names,y.2=.free->scope.names.lookup y.1=ς .free
 len:M.length=src.length
 nd:M.Nodup
 src:∀p∈M.zip src,∀j∈p.2,N[j]?=ς p.1/\(p.1,qh3)∈scope.names
noncomputable def aI(src:η (ζ Nat))(σ:St):St:=src.map λo=>o.bind λj=>(σ[j]?).join
def cxC(X:Cx)(M:η Str)(scope:J9)(C:J4)(s:qa7)(H:Hp)(ex:η J4):Cx:={X with N:=M,s₀:=s,H₀:=H,env:=compEnvC scope (mZ scope.names X.env.cells) C X.env,outer:=X.stack,ex:=ex,fn:=λ_=>ξ,pn:=[],xe:=λ_ _=>False}
def PTs(X:Cx)(ifs:η J8)(t:TT):Prop:=
 ∀(J0:η (J4×Obj))(s:qa7)(σ:St)(H:Hp)(Q:Bool->Hp->Prop),Inv X J0 σ H s->t σ H Q→
  wpAny (model X.prog X.w) X.A (forIn ifs θ λc r=>if r=θ then do let ok <- isTrue c X.env (eval c X.env);pure (qp0 ok)else pure (qp0 r)) (TP X J0 σ Q) X.xe s
def tYes:TT:=λ_ H Q=>Q θ H
theorem xh:PTs X [] tYes:=λJ0 s σ H Q I h=>wpAny_tests_nil ⟨H,I,h⟩
theorem xi{c:J8}{t:TT}(h:PT X c t):PTs X [c] t:=λJ0 s σ H Q I O=>wpAny_tests_one (h J0 s σ H Q I O)
def Wk(a b:St):Prop:=a.length=b.length/\∀(i:Nat) v,a[i]?=ς (ς v)->b[i]?=ς (ς v)
def jk(src:η (ζ Nat))(wi:TI)(g:TG)(tt:TT)(te:TE):TE:=λσ H Q=>wi σ H λJ H1=>∀D,H1 D=ψ->∃W:Nat->Nat->Hp->Prop,(∃m,W 0 m (upd H1 D (.e [])))/\∀i m H,W i m H→
 (J.stop i H/\Q (.ref D) H)\/(J.go i H/\∃N:Hp->Prop,(∀H',N H'->∃Z,Z<m/\W (i+1) Z H')/\∀x H',J.yld i H x H'→
  g x (aI src σ) H' λO H2=>Wk (aI src σ) O/\tt O H2 λb U=>if b=θ then te O U λv Y=>∃ys,Y D=ς (.e ys)/\ys.length<qa5/\N (upd Y D (.e (ys++[v])))else N U)
variable{pos:Pos}
omit x in
theorem m6{prog:qe3}{w:J5}{R:Result->qa7->Prop}{s:qa7}{elt O iter:J8}{ifs:η J8}{it acc:Value}(I:Nat->qa7->Prop)
 (turn:∀n s,I n s->wpAny (model prog w) A (za3 it) (λr W=>match r with
 |none=>R (.ok .next) W
 |some v=>wpAny (model prog w) A (qw1 O it v) (λ_ U=>wpAny (model prog w) A (za2 O env v) (λ_ Z=>
 wpAny (model prog w) A (forIn ifs θ λc r=>if r=θ then do let ok <- isTrue c env (eval c env);pure (qp0 ok)else pure (qp0 r)) (λok s₃ =>
 if ok=θ then wpAny (model prog w) A (eval elt env) (λx s₄ =>
 wpAny (model prog w) A (call (.builtin "list.append") [acc,x]) (λ_ s₅=>∃m,m<n/\I m s₅) (λ_ _=>False) s₄) (notedBy (model prog w) A env λe s'=>R (.error e) s') s₃
 else ∃m,m<n/\I m s₃) (λ_ _=>False) Z) (λ_ _=>False) U) (λ_ _=>False) W) (λ_ _=>False) s)
 (n:Nat) (h:I n s) :
  qu7 (model prog w) A (.compLoop (.ListComp elt [⟨O,iter,ifs,0⟩] scope pos) 0 it acc env) R s:=by
 refine codeAny_loop rfl I (λn s hI=>?_) n h;show wpAny _ A ((compTurn (.ListComp elt [⟨O,iter,ifs,0⟩] scope pos) 0 it acc env).onRaise (λx=>do noteFrame x env;theTreesLotGoes x)) _ _ s;refine wpAny_noted ?_;rw[compTurn_list];refine wB (zd9 (wB (qo0 (turn n s hI) (λr W Y=>?_) λ_ _ h'=>h'.elim)));cases r with
 |none=>exact qa2 Y
 |some v=>
  refine wB (qo0 Y (λ_ U h₁'=>?_) λ_ _ h'=>h'.elim);refine wB (qo0 h₁' (λ_ Z h₂=>wB (qo0 h₂ (λok s₃ h₃=>?_) λ_ _ h'=>h'.elim)) λ_ _ h'=>h'.elim);cases ok with
  |false=>exact qa2 ⟨rfl,h₃⟩
  |true=>exact wB (wB (qo0 h₃ (λx s₄ h₄=>wB (qo0 h₄ (λ_ s₅ h₅=>qa2 (qa2 ⟨rfl,h₅⟩)) λ_ _ h'=>h'.elim)) λ_ _ h'=>h'))
variable{Q:VK}{cpos:Pos}{QQ:Value->qa7->Prop}{use:ζ (Value->Sem Unit)}
section
variable{X:Cx}{elt tg iter:J8}{ifs:η J8}{scope:J9}{pos:Pos}{M:η Str}{src:η (ζ Nat)}{wi:TI}{g:TG}{tt:TT}{te:TE}
omit x in
theorem j0{x:Str}(Z:∀y∈scope.names,y.2≠.cell)(h:(relabel scope env).names.lookup x=ς .cell\/(relabel scope env).names.lookup x=ς .free):(x,qh3)∈scope.names:=by
 have O:∀k,(relabel scope env).names.lookup x=ς k->(k=.cell\/k=.free)->(x,qh3)∈scope.names:=by
  intro k hk W;have Y:=PySem.mem_of_lookup hk;unfold relabel at Y;have⟨⟨n,k0⟩,U,e⟩:=qb9.mp Y;dsimp only at e;split at e
  .rename_i hc;rwa[qa1]at hc;have:k0=.free:=‹hc.1.1›
   subst this;cases e;exact U
  .cases e;rcases W with z|z
   .subst z;exact absurd rfl (Z _ U)
   .subst z;exact U
 rcases h with h|h
 .exact O _ h (.inl rfl)
 .exact O _ h (.inr rfl)
theorem tL{s s1:qa7}{fp:η J4}{m1:Str->ζ Value}(S:CmpScope X.N X.env.scope scope M src)(I:Inv X J0 σ H s)(hf:∀b∈fp,dI X J0 H b)
 (hfl:∀b∈fp,b<s.heap.objs.size) (hn:s1.heap.Ns s.heap.objs.size m1) (hk:∀b o,s.heap.get? b=ς o->s1.heap.get? b=ς o) (hos:s1.os=s.os) (hg:s1.gens=s.gens) :
  Inv (cxC X M scope s.heap.objs.size s H fp) [] (aI src σ) H s1:=by
 have Z:∀x∈scope.names,x.2=.free->∃c,X.env.cells.lookup x.1=ς c:=λx hx Y=>I.ok.has x.1 (S.free x hx Y)
 have O:∀x c,(mZ scope.names X.env.cells).lookup x=ς c->X.env.cells.lookup x=ς c:=λx c h=>gj Z h
 have W:∀c v,s.heap.IsCell c v->s1.heap.IsCell c v:=λc v hq1=>by have⟨o,ho,hd⟩:=hq1;exact⟨o,hk c o ho,hd⟩
 refine⟨⟨I.ok.mod,S.kind,I.ok.glob,I.ok.blt,nL _,λy z c h1 h2=>I.ok.inj y z c (O _ _ h1) (O _ _ h2),λx hx=>lG (j0 S.nocell hx),λx c h=>(nomatch h),I.ok.hd,I.ok.frames,.inl rfl,
  λb hb=>⟨qc5 (hfl b hb),λx c h=>(hf b hb).2.2.2.2.1 x c (O _ _ h)⟩,I.bs,qd7 I.ok.bsz I.sz,λb o e hb=>?_,λb hb z=>?_,I.stack,I.stkFree,λp hp=>I.base.cts _ _ (I.ok.tb p hp)⟩,
  hos,(by rw[hg];exact I.bare),Un.kept hk,⟨m1,hn,λi x v h1 h2 h3=>?_⟩,λx c h=>?_,I.hok.fresh (qq9 _),λx c h=>I.freeC x c (O _ _ h),λp hp=>absurd hp (by simp[cxC]),I.hok.kept hk,?_⟩
 .rcases(hf b hb).2.2.2.1 with z|z
  .exact I.ok.noex b o e z
  .exact absurd (qc9 (qb2 e) (qd7 I.ok.bsz z)) (qn6 _)
 .rcases qc3.mp (I.stkSub b z)with q|q
  .exact(hf b hb).2.1 q
  .exact(hf b hb).2.2.1 q
 . -- a name taken over
   have h1:M[i]?=ς x:=h1;unfold aI at h2;rw[qa8]at h2;cases hs:src[i]? with
   |none=>rw[hs]at h2;cases h2
   |some o=>
    rw[hs]at h2;rwa[qa9,qt5]at h2;cases o with
    |none=>cases h2
    |some j=>
     rwa[qa0]at h2
     have hmem:(x,ς j)∈M.zip src:=by
      have:(M.zip src)[i]?=ς (x,ς j):=by rw[qy2];exact⟨h1,hs⟩
      exact qa4 this
     have⟨hN,Y⟩:=S.src _ hmem j rfl
     have hσ:σ[j]?=ς (ς v):=by
      cases e:σ[j]? with
      |none=>rw[e]at h2;cases h2
      |some o=>rw[e]at h2;rwa[qq6]at h2;rw[h2]
     have U:=S.free _ Y rfl;have⟨m,hm,hl⟩:=I.loc;have⟨u,r,l⟩:=hl j x v hN hσ (.inr U);refine⟨u,r,?_⟩
     have hloc:X.env.kindOf x≠ς .local:=by show X.env.scope.names.lookup x≠_;rcases U with q|q<;>rw[q]<;>decide
     rcases l with l|⟨_,c,e,z⟩
     .exact absurd l.1 hloc
     .have⟨c',e'⟩:=lG (cells:=X.env.cells) Y;have:=O _ _ e';rw[e]at this;cases this;refine .inr ⟨?_,c,e',W _ _ z⟩;rcases h3 with q|q
      .exact absurd q (by
        -- a name that is free in the block is not local there
        exact(by
         intro q
         have:scope.names.lookup x=ς .local:=by
          have hb:∀(names:η (Str×qx2)),(names.map λ(n,k)=>if(k==qh3&&X.env.scope.kind==.function&&X.env.kindOf n==ς .cell)then(n,qx2.cell)else(n,k)).lookup x=ς .local->names.lookup x=ς .local:=by
           intro names;induction names with
           |nil=>intro h;simp at h
           |cons y r ih=>
            have⟨n,k⟩:=y;intro h;rwa[qa3]at h;by_cases hx:x=n
            .subst hx;split at h
             .simp[qk3]at h
             .simpa[qk3] using h
            .have hx':(x==n)=ξ:=‹hx›
             split at h
             .rwa[qk3,hx']at h ⊢;exact ih h
             .rwa[qk3,hx']at h ⊢;exact ih h
          exact hb _ q
         rw[S.lf _ Y rfl]at this;cases this))
      .exact q
 .have⟨v,z⟩:=I.cell x c (O _ _ h);exact⟨v,W _ _ z⟩
 .show(aI src σ).length=M.length;unfold aI;rw[qa6,S.len]
omit x in
theorem qJ{s:qa7}{use:ζ (Value->Sem Unit)}(S:CmpScope X.N X.env.scope scope M src)(hc:X.calm=θ)(hi:PI X tg iter wi)(hg:M.Nodup->∀C s H ex,PG (cxC X M scope C s H ex) tg g)(ht:∀C s H ex,PTs (cxC X M scope C s H ex) ifs tt)
 (he:∀(s3:qa7)(H3:Hp)(fp:η J4)(acc:Value)(pl:η (J4×Obj))(Y:St)(H9:Hp)(s9:qa7)(Q':VK),Inv X J0 σ H3 s3->(∀b∈fp,dI X J0 H3 b)->Inv (cxC X M scope s3.heap.objs.size s3 H3 fp) pl Y H9 s9->te Y H9 Q'→
 wpAny (model X.prog X.w) X.A (eval elt (cxC X M scope s3.heap.objs.size s3 H3 fp).env) (EP (cxC X M scope s3.heap.objs.size s3 H3 fp) pl Y Q') (notedBy (model X.prog X.w) X.A (cxC X M scope s3.heap.objs.size s3 H3 fp).env (λe s'=>ze4 (model X.prog X.w) X.A X.xe use QQ acc s3.heap.objs.size (.error e) s')) s9) (hs:∀x,qh6 iter X.env x=pure x) (I:Inv X J0 σ H s) (h:jk src wi g tt te σ H Q)
 (hfin:∀(D C:J4)(H':Hp)(s':qa7)(m:Str->ζ Value),Inv X J0 σ H' s'->dI X J0 H' C->s'.heap.Ns C m->Q (.ref D) H'->ze4 (model X.prog X.w) X.A X.xe use QQ (.ref D) C (.ok .next) s') :
  wpAny (model X.prog X.w) X.A (ze5 (.ListComp elt [⟨tg,iter,ifs,0⟩] scope pos) scope X.env cpos (newList []) ξ (eval iter X.env) use) QQ X.xe s:=by
 have Z:∀x∈scope.names,x.2=.free->∃c,X.env.cells.lookup x.1=ς c:=λx hx hfr=>I.ok.has x.1 (S.free x hx hfr)
 refine wpAny_comprehension_free (use:=use) rfl hs (m5 Z) S.kind S.names (thn (hi J0 s σ H _ I h) λv s1 h1=>thn h1 λitv s2 h2=>?_);have⟨it,fp,tn,J,H2,rfl,I2,T,st2,f2,hq⟩:=h2;refine qf7 ?_;have I3:Inv X J0 σ (upd H2 s2.heap.objs.size (.e [])) {s2 with heap:=s2.heap.push {cls:=.type "list",dict:=ψ,data:=.seq ([]:η Value).toArray},toks:=s2.toks}:=I2.lnew (J3:=[]) (ys:=[]) (t':=s2.toks) .nil Ξ;have hD:H2 s2.heap.objs.size=ψ:=I2.fresh;have⟨W,⟨m0,w0⟩,turn⟩:=hq _ hD;generalize hDn:s2.heap.objs.size=D at*
 generalize hs3:({s2 with heap:=s2.heap.push {cls:=.type "list",dict:=ψ,data:=.seq ([]:η Value).toArray},toks:=s2.toks}:qa7)=s3 at*
 have f3:∀b∈fp,dI X J0 (upd H2 D (.e [])) b:=λb hb=>⟨by have⟨o,e,_⟩:=T.obj _ _ st2 b hb;rw[af (by rw[<- hDn];exact qc5 (qb2 e))];exact(f2 b hb).1,(f2 b hb).2⟩
 have k23:∀b o,s2.heap.get? b=ς o->s3.heap.get? b=ς o:=λb o e=>by rw[<- hs3];exact gP _ e
 have st3:tn 0 s3.heap:=T.keep _ _ _ st2 λb _ o e=>k23 b o e
 have fl3:∀b∈fp,b<s3.heap.objs.size:=λb hb=>by have⟨o,e,_⟩:=T.obj _ _ st3 b hb;exact qb2 e
 refine wpAny_newFunctionEnv S.nocell (by intro y hy;simp at hy) (λh₁ hns₁ hsb₁=>?_) S.kind;have k34:∀b o,s3.heap.get? b=ς o->h₁.get? b=ς o:=λb o e=>hsb₁.extBut b o (qc5 (qb2 e)) (gP _ e)
 generalize hs4:({s3 with heap:=h₁,toks:=s3.toks+([]:η (Str×Value)).length}:qa7)=s4
 have I4:Inv (cxC X M scope s3.heap.objs.size s3 (upd H2 D (.e [])) fp) [] (aI src σ) (upd H2 D (.e [])) s4:=by rw[<- hs4];exact tL S I3 f3 fl3 hns₁ k34 rfl rfl
 have st4:tn 0 s4.heap:=T.keep _ _ _ st3 λb _ o e=>by rw[<- hs4];exact k34 b o e
 generalize O:cxC X M scope s3.heap.objs.size s3 (upd H2 D (.e [])) fp=U at*
 have hg':PG U tg g:=by rw[<- O];exact hg S.nd _ _ _ _
 have ht':PTs U ifs tt:=by rw[<- O];exact ht _ _ _ _
 have eP:U.prog=X.prog:=by rw[<- O];rfl
 have eW:U.w=X.w:=by rw[<- O];rfl
 have eK:U.K=X.K:=by rw[<- O];rfl
 have eA:U.A=X.A:=by rw[<- O];rfl
 have ex':U.xe=λ_ _=>False:=by rw[<- O];rfl
 have ec:U.calm=θ:=by rw[<- O];exact hc
 have eE:U.env=compEnvC scope (mZ scope.names X.env.cells) s3.heap.objs.size X.env:=by rw[<- O];rfl
 have stat:∀{H':Hp},(∀b∈fp,H' b=ψ)->∀b∈fp,dI U [] H' b:=λhn b hb=>by
  rw[<- O];refine⟨hn b hb,qc5 (fl3 b hb),λz=>?_,.inl hb,λx c h=>(f3 b hb).2.2.2.2.1 x c (gj Z h),λp hp=>absurd hp (by simp[cxC])⟩;rcases qc3.mp (I3.stkSub b z)with q|q
  .exact(f3 b hb).2.1 q
  .exact(f3 b hb).2.2.1 q
 -- behind the block
 have fin:∀(H':Hp)(s':qa7),Inv U [] (aI src σ) H' s'->Q (.ref D) H'->ze4 (model X.prog X.w) X.A X.xe use QQ (.ref D) s3.heap.objs.size (.ok .next) s':=by
  intro H' s' J' q;rw[<- O]at J';have⟨m,hn,_⟩:=id J'.loc;have hC:H' s3.heap.objs.size=ψ:=J'.free;have un:Un (frs X.stack) fp (upd H2 D (.e [])) H' s3.heap s'.heap:=J'.base;have IA:Inv X J0 σ H' s':=I3.call' (s':=s') (show s'.os=s3.os from J'.os) un J'.hok J'.bare λb hb=>⟨(f3 b hb).2.2.2.1,(f3 b hb).2.1,(f3 b hb).2.2.2.2.1,(f3 b hb).2.2.2.2.2⟩
  exact hfin D _ H' s' m IA (I3.fpOk (nL _) hC) hn q
 have loop:∀s4':qa7,s4'=s4->qu7 (model X.prog X.w) X.A (.compLoop (.ListComp elt [⟨tg,iter,ifs,0⟩] scope pos) 0 (.ref it) (.ref D) U.env) (ze4 (model X.prog X.w) X.A X.xe use QQ (.ref D) s3.heap.objs.size) s4':=by
  rintro _ rfl;refine m6 (λn s'=>∃i H',Inv U [] (aI src σ) H' s'/\tn i s'.heap/\(∀b∈fp,H' b=ψ)/\W i n H') ?_ m0 ⟨0,_,I4,st4,λb hb=>(f3 b hb).1,w0⟩;rintro n s5 ⟨i,H5,I5,st5,fr5,w5⟩;rcases turn i n H5 w5 with ⟨stop,qn⟩|⟨go,N,hN,step⟩
  .have:=T.done U eP eW eK ec i [] s5 (aI src σ) H5 (λ_ _=>False) I5 (stat fr5) st5 stop;rw[eA]at this;refine thn this λr s6 hq2=>?_
   have⟨hr,I6⟩:=hq2;subst hr;exact fin H5 s6 I6 qn
  .have:=T.item U eP eW eK ec i [] s5 (aI src σ) H5 (λ_ _=>False) I5 (stat fr5) st5 go;rw[eA]at this;refine thn this λr s6 hq3=>?_
   have⟨u,hr,h6⟩:=hq3;subst hr;refine thn h6 λ_ s7 hq4=>?_
   have⟨x,H7,I7,r7,y7,st7,fr7⟩:=hq4;have I7':=I7.pinned (stat fr7) (T.obj _ _ st7);have a1:=hg' _ s7 (aI src σ) H7 x u _ I7' r7 (step x H7 y7);rw[ex',eP,eW,eA]at a1;refine thn a1 λ_ s8 hq5=>?_
   have⟨Y,H8,I8,wk8,q8⟩:=hq5;have a2:=ht' _ s8 Y H8 _ I8 q8;rw[ex',eP,eW,eA]at a2;refine thn a2 λok s9 hq6=>?_
   have⟨H9,I9,q9⟩:=hq6
   have again:∀{H7':Hp}{s':qa7},Inv U ([]++fF fp s7.heap) Y H7' s'->N H7'->∃m,m<n/\∃i H',Inv U [] (aI src σ) H' s'/\tn i s'.heap/\(∀b∈fp,H' b=ψ)/\W i m H':=λ{H7' s'} J7 n7=>by have⟨m',hm,w7⟩:=hN H7' n7;refine⟨m',hm,i+1,H7',J7.unpinned.weak wk8.1 wk8.2,T.keep _ _ _ st7 λb hb o e=>(J7.pin (b,o) (qe4 _ (qe4 _ (cj hb e)))).1,λb hb=>?_,w7⟩;have⟨o,e,d⟩:=T.obj _ _ st7 b hb;exact(J7.pin (b,o) (qe4 _ (qe4 _ (cj hb e)))).2.1
   cases ok with
   |false=>exact again I9 q9
   |true=>
    have I9':Inv (cxC X M scope s3.heap.objs.size s3 (upd H2 D (.e [])) fp) ([]++fF fp s7.heap) Y H9 s9:=by rw[O];exact I9
    have a3:=he s3 (upd H2 D (.e [])) fp (.ref D) _ Y H9 s9 _ I3 f3 I9' q9;rw[O]at a3;refine thn a3 λv s10 hq7=>?_
    have⟨y,H10,I10,r10,ys,hl,hz,q10⟩:=hq7;have a4:=fK (X:=U) _ s10 Y H10 (.ref D) [y] (.ref D) [v] (λ_ H'=>N H') I10 rfl (.cons r10 .nil) ⟨D,ys,y,rfl,rfl,hl,hz,q10⟩;rw[ex',eP,eW,eA]at a4;refine thn a4 λ_ s11 hq8=>?_
    have⟨_,H11,I11,_,q11⟩:=hq8;exact again I11 q11
 have e4:∀c:Env,c=U.env->qu7 (model X.prog X.w) X.A (.compStart (.ListComp elt [⟨tg,iter,ifs,0⟩] scope pos) 0 (.ref it) (.ref D) c) (ze4 (model X.prog X.w) X.A X.xe use QQ (.ref D) s3.heap.objs.size) s4:=by rintro _ rfl;exact codeAny_compStart_list (loop _ rfl) (T.self _ _ _ _ _ st4 (loop _ rfl))
 exact e4 _ (by rw[eE];rfl)
omit x in
theorem jl{s:qa7}(S:CmpScope X.N X.env.scope scope M src)(hc:X.calm=θ)(hi:PI X tg iter wi)(W:M.Nodup->∀C s H ex,PG (cxC X M scope C s H ex) tg g)(ht:∀C s H ex,PTs (cxC X M scope C s H ex) ifs tt)
 (he:∀C s H ex,PE (cxC X M scope C s H ex) elt te) (hs:∀x,qh6 iter X.env x=pure x) (I:Inv X J0 σ H s) (h:jk src wi g tt te σ H Q)
 (O:∀(D C:J4)(H':Hp)(s':qa7)(m:Str->ζ Value),Inv X J0 σ H' s'->dI X J0 H' C->s'.heap.Ns C m->Q (.ref D) H'->ze4 (model X.prog X.w) X.A X.xe use QQ (.ref D) C (.ok .next) s') :
  wpAny (model X.prog X.w) X.A (ze5 (.ListComp elt [⟨tg,iter,ifs,0⟩] scope pos) scope X.env cpos (newList []) ξ (eval iter X.env) use) QQ X.xe s:=
 qJ S hc hi W ht (λs3 H3 fp Y pl U Z s9 Q' _ _ J q=>qo0 (he _ _ _ _ pl s9 U Z Q' J q) (λ_ _ x=>x) λ_ _ x=>qk9 x) hs I h O
theorem Inv.but{s:qa7}{C:J4}{W:Heap}(I2:Inv X J0 σ H s)(U:dI X J0 H C)(Y:qg9 C s.heap W):Inv X J0 σ H {s with heap:=W}:=by
 have kC:∀b o,b≠C->s.heap.get? b=ς o->W.get? b=ς o:=λb o hb e=>Y.extBut b o hb e
 have nm:∀{b:J4},b∉[C]->b≠C:=λhb z=>hb (by rw[z];exact qk0)
 refine I2.call' (s':={s with heap:=W}) (ch:=[C]) rfl ⟨λb o e n hb O=>kC b o (nm O) e,λb o e n hb O=>⟨o.slots,kC b o (nm O) e⟩,λb o e n O=>n,λb o e O=>⟨o,kC b o (nm O) e⟩,λb xs e=>e,λb o u e=>e,λb ps e=>⟨#[],by rw[Array.append_empty];exact e⟩,λb qs e=>e⟩ ?_ I2.bare λb hb=>?_
 .intro b u e;have nb:b≠C:=λz=>by rw[z,U.1]at e;cases e
  refine(I2.hok b u e).stay (λc v Z q=>kC c v ?_ q) (λ_ q=>q) (λ_ _ q=>q) λ_ _ _ q=>q
  rcases Z with z|z
  .rw[z];exact nb
  .intro w;rw[w,U.1]at z;cases z
 .cases qx5.mp hb;exact⟨U.2.2.2.1,U.2.1,U.2.2.2.2.1,U.2.2.2.2.2⟩
theorem tN (S:CmpScope X.N X.env.scope scope M src) (hc:X.calm=θ) (hi:PI X tg iter wi) (U:M.Nodup->∀ C s H ex,PG (cxC X M scope C s H ex) tg g) (Z:∀ C s H ex,PTs (cxC X M scope C s H ex) ifs tt)
  (he:∀C s H ex,PE (cxC X M scope C s H ex) elt te) (hs:∀x,qh6 iter X.env x=pure x:=by intro _;rfl) :
  PE X (.ListComp elt [⟨tg,iter,ifs,0⟩] scope pos) (jk src wi g tt te):=by
 intro J0 s σ H Q I h;rw[eval_ListComp];exact jl (use:=ψ) S hc hi U Z he hs I h λD C H' s' m O Y W q=>⟨m,W,λh' sb=>⟨.ref D,H',O.but Y sb,rfl,q⟩⟩
end
noncomputable def Its(x:Str):It:=⟨λi _=>i<x.cps.size,λi H v H'=>H'=H/\∃c,x.cps[i]?=ς c/\v=.str ⟨#[c]⟩,λi _=>i=x.cps.size⟩
section
variable{X:Cx}{tg:J8}
def iStr(tl:TE):TI:=λσ H R=>tl σ H λv H1=>∃x,v=.str x/\R (Its x) H1
theorem jm:∀{ts:η Str}{us:η Value},Vals (ts.map V.str) us->∃l,us=strValues l/\l.map (·.1)=ts
 |[],_,.nil=>⟨[],rfl,rfl⟩
 |x::r,_,.cons h t=>by have⟨O,rfl⟩:=h;have⟨l,U,e2⟩:=jm t;exact⟨(x,O)::l,by rw[U];rfl,by rw[<- e2];rfl⟩
theorem xj:MtR X "str.join" (λx vs H Q=>∃(a:Str)(l:J4)(ts:η Str),x=.str a/\vs=[.ref l]/\SqL X.K H l (ts.map V.str)/\JoinOk a ts=θ/\Q (.str (zg1 a ts)) H):=by intro J0 s σ H x vs v us Q I Z Y h;have⟨a,l,ts,rfl,rfl,O,U,q⟩:=h;have⟨t,rfl⟩:=Z;have⟨u,rfl,W⟩:=Y.one;cases W;have⟨J3,r,p,hz⟩:=I.list O;have⟨ls,rfl,e2⟩:=jm r;exact SC.join p.isList e2 U λt' k=>⟨.str _,H,I.tok _,⟨_,rfl⟩,q⟩
theorem j3:CallR X (.type "int") (λxs H Q=>∃x n,xs=[.str x]/\PySem.intText? x=ς n/\x.length<=640/\Q (.int n) H):=by intro J0 s σ H xs us Q I r h;have⟨x,n,rfl,U,hl,q⟩:=h;have⟨u,rfl,O⟩:=dC r;have⟨t,rfl⟩:=O;exact PySem.W.KIN.call_text U hl ⟨.int n,H,I.tok _,⟨_,rfl⟩,q⟩
theorem oI{v:Value}{o:ζ Int}(h:zf3 v o):∃p:ζ (Int×Tok),v=partValue p/\o=p.map (·.1):=by
 cases o with
 |none=>exact⟨ψ,by cases h<;>rfl,rfl⟩
 |some i=>cases h;exact⟨ς (i,_),rfl,rfl⟩
def rSlS:V->ζ Int->ζ Int->Hp->VK->Prop:=λx lo hi H Q=>∃z,x=.str z/\z.length<=qa5/\Q (.str (Txt.slice z lo hi)) H
theorem Bq:SlR X rSlS:=by intro J0 s σ H x v vl vu lo hi sl Q I W O pl U h;have⟨z,rfl,hz,q⟩:=h;have⟨t,rfl⟩:=W;have⟨l,rfl,rfl⟩:=oI pl;have⟨u,rfl,rfl⟩:=oI U;refine⟨"str",_,F.slot_str_getitem.lookup,typeIs_str _ _ _,?_⟩;exact wpAny_getItem_str_slice (l:=l) (u:=u) (st:=ψ) O rfl (post_val_or_str ⟨qd7 (Txt.slice_le z _ _) hz,λt' k=>⟨.str _,H,I.tok _,⟨_,rfl⟩,q⟩⟩)
end
theorem iO:qg0 "isinstance"=ς (.builtin "isinstance"):=by first|exact PySem.boot_isinstance|exact PyProof.Rows.boot_isinstance|decide +kernel
theorem j4:qg0 "enumerate"=ς (.type "enumerate"):=by first|exact PySem.boot_enumerate|exact PyProof.Rows.boot_enumerate|decide +kernel
structure OkF(P:qe3)(w:J5)(K:xA9)(mg:Str->Option Value)(base:Heap)(x:Str)(k:Nat)(ps:List Str)(sp:Sp):Prop where
 ex:∃f fd,mg x=ς (.ref f)/\xF9 K (.ref f)=θ/\Binds K fd ps []/\FnOk P w K mg base CX0 k f fd ps sp
section
variable{X:Cx}{k:Nat}{ps:η Str}{sp:Sp}{x:Str}{p pos:Pos}{e:J8}{es:η J8}{t:TA}
theorem tO (F:OkF X.prog X.w X.K X.mg X.base x k ps sp) (hr:Room k X.A) (Z:Gl X x) (W:PA X (e::es) t) (O:(x==("__debug__":Str))=ξ:=by decide)
  (he:qb3 (e::es) X.env=(ξ,eval e X.env)::qb3 es X.env:=by rfl) (U:(qi3 pos (qb3 es X.env)).any (·.1)=ξ:=by rfl):PE X (.Call (.Name x p) (e::es) [] pos) (i7 sp [] E0 t):=by
 have⟨f,fd,h1,h2,Y,h4⟩:=F.ex;exact wV h4 hr Z h1 h2 Y .nil jg W O he U
theorem qK(F:OkF X.prog X.w X.K X.mg X.base x k ps sp)(Y:Room k X.A)(W:Gl X x)(O:(x==("__debug__":Str))=ξ:=by decide):PE X (.Call (.Name x p) [] [] pos) (i7 sp [] E0 mR):=by have⟨f,fd,h1,h2,U,h4⟩:=F.ex;exact sS h4 Y W h1 h2 U .nil jg O
end
noncomputable def tQ(N:η Str)(outer scope:J9)(M:η Str)(src:η (ζ Nat)):Bool:=
 (match scope.kind with|.function=>θ|_=>ξ)&&
 scope.names.all (λy=>decide (y.2≠.cell))&&
 scope.names.all (λy=>!decide (y.2=.free)||(decide (outer.names.lookup y.1=ς .cell)||decide (outer.names.lookup y.1=ς .free)))&&
 scope.names.all (λy=>!decide (y.2=.local)||decide (scope.names.lookup y.1=ς .local))&&
 scope.names.all (λy=>!decide (y.2=.free)||decide (scope.names.lookup y.1=ς .free))&&
 decide (M.length=src.length)&&decide M.Nodup&&
 (M.zip src).all (λp=>match p.2 with|none=>θ|some j=>decide (N[j]?=ς p.1)&&decide ((p.1,qh3)∈scope.names))
variable{src:η (ζ Nat)}
theorem CmpScope.of{N:η Str}{outer:J9}{M:η Str}(h:tQ N outer scope M src=θ):CmpScope N outer scope M src:=by
 unfold tQ at h;rwa[qa1,qc0,qh2,qj1,decide_eq_true_eq,decide_eq_false_iff_not]at h;have⟨⟨⟨⟨⟨⟨⟨h1,h2⟩,W⟩,h4⟩,Z⟩,Y⟩,h7⟩,h8⟩:=h;refine⟨?_,h2,λy O e=>(W y O).resolve_left λz=>z e,λy O e=>(h4 y O).resolve_left λz=>z e,λy O e=>(Z y O).resolve_left λz=>z e,Y,h7,λp hp j U=>?_⟩
 .revert h1;cases scope.kind<;>simp
 .have:=h8 p hp;cases e:p.2 with
  |none=>rw[e]at U;cases U
  |some j'=>rw[e]at U this;cases U;simpa using this
def Plain(J:It)(xs:η V)(ok:Hp->Prop):Prop:=∀i H,ok H->(i<xs.length->J.go i H)/\(i=xs.length->J.stop i H)/\∀x H',i<xs.length->J.yld i H x H'->H'=H/\xs[i]?=ς x
theorem plain_list:Plain (Itl K a) xs (λH=>SqL K H a xs):=λi H h=>⟨λhi=>⟨xs,xs[i],h,by simp[hi]⟩,λe=>⟨xs,h,Θ⟩,λx H' _ y=>⟨y.1,y.2 xs h⟩⟩
theorem plain_tup:Plain (Itt K a) xs (λH=>SqT K H a xs):=λi H h=>⟨λhi=>⟨xs,xs[i],h,by simp[hi]⟩,λe=>⟨xs,h,Θ⟩,λx H' _ y=>⟨y.1,y.2 xs h⟩⟩
noncomputable def j6(lo:Int)(n:Nat):η V:=(qc8 n).map λ(i:Nat)=>V.int (lo+i)
theorem plain_range{lo:Int}{n:Nat}:Plain (Itr lo n) (j6 lo n) (λ_=>True):=λi H h=>by
 refine⟨λhi=>?_,λe=>?_,λx H' hi y=>?_⟩
 .show i<n;simpa[j6] using hi
 .show n<=i;simp[j6]at e;lia
 .have⟨e,rfl⟩:=y;refine⟨e,?_⟩;unfold j6 at hi ⊢;rw[qa6,qt7]at hi;rw[qa8,List.getElem?_range hi];rfl
noncomputable def signV(x:Str):η V:=x.cps.toList.map λc=>V.str ⟨#[c]⟩
def zA(src:η (ζ Nat))(g:TG)(tt:TT)(te:TE)(σ:St)(J:It)(H1:Hp)(Q:VK)(D:J4):Prop:=∃W:Nat->Nat->Hp->Prop,(∃m,W 0 m (upd H1 D (.e [])))/\∀i m H,W i m H→
 (J.stop i H/\Q (.ref D) H)\/(J.go i H/\∃N:Hp->Prop,(∀H',N H'->∃Z,Z<m/\W (i+1) Z H')/\∀x H',J.yld i H x H'→
  g x (aI src σ) H' λO H2=>Wk (aI src σ) O/\tt O H2 λb U=>if b=θ then te O U λv Y=>∃ys,Y D=ς (.e ys)/\ys.length<qa5/\N (upd Y D (.e (ys++[v])))else N U)
variable{wi:TI}{te:TE}
theorem tR{g:TG}{tt:TT}:jk src wi g tt te σ H Q=wi σ H λJ H1=>∀D,H1 D=ψ->zA src g tt te σ J H1 Q D:=rfl
def ForW(g:TG)(tb:TS)(D:Ends)(J:It)(σ:St)(H1:Hp):Prop:=∃W:Nat->Nat->St->Hp->Prop,(∃m,W 0 m σ H1)/\∀i m σ H,W i m σ H→ (J.stop i H/\D.nx σ H)\/(J.go i H/\∃N:St->Hp->Prop,(∀O H',N O H'->∃Y,Y<m/\W (i+1) Y O H')/\∀x H',J.yld i H x H'->g x σ H' λU H2=>tb {D with nx:=N,ct:=N,bk:=D.nx} U H2)
theorem xk{g:TG}{tb:TS}{D:Ends}:tFor wi g tb D σ H=wi σ H λJ H1=>ForW g tb D J σ H1:=rfl
theorem tS{x:Str}{v:V}(U:Gl X x)(hm:∃u,X.mg x=ς u/\RelV v u)(O:(x==("__debug__":Str))=ξ:=by decide):PE X (.Name x pos) (tC v):=by have⟨u,h1,h2⟩:=hm;exact wF U h1 h2 O
noncomputable def cO(scope outer:J9):J9:={scope with names:=scope.names.map λ(n,k)=>if(k==.free&&outer.kind==.function&&outer.names.lookup n==ς .cell)then(n,.cell)else(n,k)}
noncomputable def bL(sc:J9)(N:η Str)(i:Nat)(x:Str):Bool:=decide (N[i]?=ς x)&&(decide (sc.names.lookup x=ς .local)||(decide (sc.names.lookup x=ς .cell)||decide (sc.names.lookup x=ς .free)))&&!(x==("__debug__":Str))&&!(x==("__classdict__":Str))
noncomputable def iP(sc:J9)(x:Str):Bool:=decide (sc.names.lookup x=ς .local)||decide (sc.names.lookup x=ς .cell)
noncomputable def aL(sc:J9)(x:Str):Bool:=decide (sc.names.lookup x=ς .globalImplicit)&&!(x==("__debug__":Str))&&!decide (x=("__name__":Str))
section
variable{sc:J9}{N:η Str}{i:Nat}{x:Str}
theorem fM(h:bL sc N i x=θ):N[i]?=ς x:=by unfold bL at h;rwa[qa1,decide_eq_true_eq]at h;exact h.1.1.1
theorem Br(h:bL sc N i x=θ):Vis sc x:=by unfold bL at h;rwa[qa1,qh2,decide_eq_true_eq]at h;exact h.1.1.2
theorem Bs(h:bL sc N i x=θ):(x==("__debug__":Str))=ξ:=by unfold bL at h;rwa[qa1,qj1]at h;exact h.1.2
theorem D7(h:bL sc N i x=θ):(x==("__classdict__":Str))=ξ:=by unfold bL at h;rwa[qa1,qj1]at h;exact h.2
theorem j7(h:iP sc x=θ):Loc sc x:=by unfold iP at h;rwa[qh2,decide_eq_true_eq]at h;exact h
theorem z5(h:aL sc x=θ):sc.names.lookup x=ς .globalImplicit:=by unfold aL at h;rwa[qa1,decide_eq_true_eq]at h;exact h.1.1
theorem cP(h:aL sc x=θ):(x==("__debug__":Str))=ξ:=by unfold aL at h;rwa[qa1,qj1]at h;exact h.1.2
theorem z4(h:aL sc x=θ):x≠("__name__":Str):=by unfold aL at h;rwa[qa1,qj1,decide_eq_false_iff_not]at h;exact h.2
end
def aY(X:Cx)(sc:J9):Prop:=X.env.scope=sc
section
variable{X:Cx}{sc:J9}{N:η Str}{x:Str}{pos p:Pos}
theorem pvD(i:Nat)(h:bL sc N i x=θ)(O:aY X sc:=by rfl)(e2:X.N=N:=by rfl):PE X (.Name x pos) (qm i):=by have O:X.env.scope=sc:=O;subst O e2;exact Aq (fM h) (Br h) (Bs h) (D7 h)
theorem glD(h:aL sc x=θ)(O:aY X sc:=by rfl):Gl X x:=by have O:X.env.scope=sc:=O;subst O;exact z5 h
theorem xl{i:Nat}{e:J8}{pos':Pos}(h:bL sc N i x=θ)(hl:iP sc x=θ)(W:N.Nodup)(he:PE X e te)(O:aY X sc:=by rfl)(e2:X.N=N:=by rfl)(U:X.fn x=θ\/X.env.scope.names.lookup x=ς .local:=by exact .inl rfl)
 (hs:qj6 e (ς (.Name x pos')) pos.line X.env=pure ξ:=by rfl):PS X (.Assign [.Name x pos'] e pos) (wM te (ei i)):=by
 have O:X.env.scope=sc:=O;subst O e2;exact AE W (fM h) (j7 hl) he hs U
theorem tT{i:Nat}(h:bL sc N i x=θ)(hl:iP sc x=θ)(W:N.Nodup)(O:aY X sc:=by rfl)(e2:X.N=N:=by rfl)(U:X.fn x=θ\/X.env.scope.names.lookup x=ς .local:=by exact .inl rfl):PG X (.Name x pos) (ei i):=by have O:X.env.scope=sc:=O;subst O e2;exact ox W (fM h) (j7 hl) U
noncomputable def loOk(sc:J9)(x:Str):Bool:=decide (sc.names.lookup x=ς .local)
theorem tU{i:Nat}(h:bL sc N i x=θ)(hl:loOk sc x=θ)(U:X.N.Nodup)(O:aY X sc)(e2:X.N=N:=by rfl):PG X (.Name x pos) (ei i):=by have O:X.env.scope=sc:=O;subst O e2;have hl:X.env.scope.names.lookup x=ς .local:=of_decide_eq_true hl;exact ox U (fM h) (.inl hl) (.inr hl)
theorem tV{v:V}(h:aL sc x=θ)(hm:∃u,X.mg x=ς u/\RelV v u)(O:aY X sc:=by rfl):PE X (.Name x pos) (tC v):=tS (glD h O) hm (cP h)
theorem tW{v:V}{u:Value}(h:aL sc x=θ)(hm:X.mg x=ψ)(U:qg0 x=ς u)(r:RelV v u)(O:aY X sc:=by rfl):PE X (.Name x pos) (tC v):=wG (glD h O) hm U r (z4 h) (cP h)
variable{e:J8}{es:η J8}{t:TA}{id T:String}{r:η V->Hp->VK->Prop}{k:Nat}{ps:η Str}{sp:Sp}
theorem jn (h:aL sc x=θ) (hc:CallR X (.builtin id) r) (hm:X.mg x=ψ) (W:qg0 x=ς (.builtin id)) (U:PA X (e::es) t) (Y:aY X sc:=by rfl)
  (he:qb3 (e::es) X.env=(ξ,eval e X.env)::qb3 es X.env:=by rfl) (O:(qi3 pos (qb3 es X.env)).any (·.1)=ξ:=by rfl):PE X (.Call (.Name x p) (e::es) [] pos) (tCB r t):=
 sV hc (glD h Y) hm W U (z4 h) (cP h) he O
theorem dM (h:aL sc x=θ) (hc:CallR X (.type T) r) (hm:X.mg x=ψ) (W:qg0 x=ς (.type T)) (U:PA X (e::es) t) (Y:aY X sc:=by rfl)
  (he:qb3 (e::es) X.env=(ξ,eval e X.env)::qb3 es X.env:=by rfl) (O:(qi3 pos (qb3 es X.env)).any (·.1)=ξ:=by rfl):PE X (.Call (.Name x p) (e::es) [] pos) (tCB r t):=
 qA hc (glD h Y) hm W U (z4 h) (cP h) he O
theorem qL (h:aL sc x=θ) (F:OkF X.prog X.w X.K X.mg X.base x k ps sp) (Y:Room k X.A) (W:PA X (e::es) t) (U:aY X sc:=by rfl)
  (he:qb3 (e::es) X.env=(ξ,eval e X.env)::qb3 es X.env:=by rfl) (O:(qi3 pos (qb3 es X.env)).any (·.1)=ξ:=by rfl):PE X (.Call (.Name x p) (e::es) [] pos) (i7 sp [] E0 t):=
 tO F Y (glD h U) W (cP h) he O
theorem m9(h:aL sc x=θ)(F:OkF X.prog X.w X.K X.mg X.base x k ps sp)(O:Room k X.A)(U:aY X sc:=by rfl):PE X (.Call (.Name x p) [] [] pos) (i7 sp [] E0 mR):=qK F O (glD h U) (cP h)
variable{tg a b:J8}{ta:TA}
theorem na(h:aL sc "range"=θ)(hm:X.mg "range"=ψ)(U:PA X [a] ta)(O:aY X sc:=by rfl)(hs:qb3 [a] X.env=[(ξ,eval a X.env)]:=by rfl):PI X tg (.Call (.Name "range" p) [a] [] pos) (zr ta):=qp (glD h O) hm U hs
end
section
variable{X:Cx}{M:η Str}{scope outer:J9}{C:J4}{s:qa7}{H:Hp}{ex:η J4}{x:Str}{pos p:Pos}
theorem scC(O:aY X outer):aY (cxC X M scope C s H ex) (cO scope outer):=by have O:X.env.scope=outer:=O;subst O;rfl
end
set_option genInjectivity true in
inductive Dt where
 |non|bl (b:Bool)|int (i:Int)|str (x:Str)|t (l:List Dt)|e (l:List Dt)|dct (ks:List Key) (l:List Dt)|dcT (ks:List (List Key)) (l:List Dt)
mutual
noncomputable def peq:Dt->Dt->Bool
 |.non,.non=>θ
 |.bl a,.bl b=>a==b
 |.bl a,.int j=>(if a then(1:Int)else 0)==j
 |.int i,.bl b=>i==(if b then(1:Int)else 0)
 |.int i,.int j=>i==j
 |.str x,.str y=>x==y
 |.t l,.t m=>peqs l m
 |.e l,.e m=>peqs l m
 |.dct ks l,.dct js m=>decide (ks=js)&&peqs l m
 |.dcT ks l,.dcT js m=>decide (ks=js)&&peqs l m
 |_,_=>ξ
noncomputable def peqs:η Dt->η Dt->Bool
 |[],[]=>θ
 |d::l,e::m=>peq d e&&peqs l m
 |_,_=>ξ
end
section
variable{l m:η Dt}{d e:Dt}
theorem pqt:peq (.t l) (.t m)=peqs l m:=rfl
theorem pql:peq (.e l) (.e m)=peqs l m:=rfl
theorem pqc:peqs (d::l) (e::m)=(peq d e&&peqs l m):=rfl
end
mutual
theorem cQ:∀d:Dt,peq d d=θ
 |.non=>rfl
 |.bl b=>by cases b<;>rfl
 |.int i=>beq_self_eq_true i
 |.str x=>beq_self_eq_true x
 |.t l=>peqs_selfBq l
 |.e l=>peqs_selfBq l
 |.dct ks l=>qc7.mpr ⟨decide_eq_true rfl,peqs_selfBq l⟩
 |.dcT ks l=>qc7.mpr ⟨decide_eq_true rfl,peqs_selfBq l⟩
theorem peqs_selfBq:∀l:η Dt,peqs l l=θ
 |[]=>rfl
 |d::l=>by show(peq d d&&peqs l l)=θ;rw[cQ d,peqs_selfBq l];rfl
end
mutual
noncomputable def cR:Dt->Nat
 |.t l=>deeps l+1
 |.e l=>deeps l+1
 |_=>0
noncomputable def deeps:η Dt->Nat
 |[]=>0
 |d::l=>max (cR d) (deeps l)
end
mutual
def Rep(K:xA9)(H:Hp):Dt->V->Prop
 |.non,v=>v=.non
 |.bl b,v=>v=.bl b
 |.int i,v=>v=.int i
 |.str x,v=>v=.str x
 |.t l,v=>∃a vs,v=.ref a/\SqT K H a vs/\Reps K H l vs
 |.e l,v=>∃a vs,v=.ref a/\SqL K H a vs/\Reps K H l vs
 |.dct ks l,v=>∃a J1,v=.ref a/\Rd H a (.dK J1)/\J1.map (·.1)=ks/\Reps K H l (J1.map (·.2))
 |.dcT ks l,v=>∃a J1,v=.ref a/\Rd H a (.dT J1)/\J1.map (·.1)=ks/\Reps K H l (J1.map (·.2))
def Reps(K:xA9)(H:Hp):η Dt->η V->Prop
 |[],vs=>vs=[]
 |d::l,vs=>∃v ws,vs=v::ws/\Rep K H d v/\Reps K H l ws
end
theorem Same.tup(e:Same H H')(h:SqT K H a xs):SqT K H' a xs:=by
 rcases h with h|h
 .exact .inl (e _ _ h)
 .exact .inr h
theorem Same.rd{u:HO}(e:Same H H')(h:Rd H a u):Rd H' a u:=by
 rcases h with h|⟨o,h⟩
 .exact .inl (e _ _ h)
 .exact .inr ⟨o,e _ _ h⟩
mutual
theorem Rep.same{K:xA9}{H H':Hp}(e:Same H H'):∀{d:Dt}{v:V},Rep K H d v->Rep K H' d v
 |.non,v,h=>h
 |.bl _,v,h=>h
 |.int _,v,h=>h
 |.str _,v,h=>h
 |.t l,v,h=>by unfold Rep at h ⊢;have⟨a,vs,h1,h2,h3⟩:=h;exact⟨a,vs,h1,e.tup h2,Reps.same e h3⟩
 |.e l,v,h=>by unfold Rep at h ⊢;have⟨a,vs,h1,h2,h3⟩:=h;exact⟨a,vs,h1,e.seq h2,Reps.same e h3⟩
 |.dct ks l,v,h=>by unfold Rep at h ⊢;have⟨a,vs,h1,h2,h3,h4⟩:=h;exact⟨a,vs,h1,e.rd h2,h3,Reps.same e h4⟩
 |.dcT ks l,v,h=>by unfold Rep at h ⊢;have⟨a,vs,h1,h2,h3,h4⟩:=h;exact⟨a,vs,h1,e.rd h2,h3,Reps.same e h4⟩
theorem Reps.same{K:xA9}{H H':Hp}(e:Same H H'):∀{l:η Dt}{vs:η V},Reps K H l vs->Reps K H' l vs
 |[],vs,h=>h
 |d::l,vs,h=>by unfold Reps at h ⊢;have⟨v,ws,h1,h2,h3⟩:=h;exact⟨v,ws,h1,Rep.same e h2,Reps.same e h3⟩
end
theorem Reps.length:∀{l:η Dt}{vs:η V},Reps K H l vs->vs.length=l.length
 |[],vs,h=>by unfold Reps at h;rw[h];rfl
 |d::l,vs,h=>by unfold Reps at h;have⟨v,ws,rfl,_,O⟩:=h;simp[Reps.length O]
theorem Reps.get:∀{l:η Dt}{vs:η V}{i:Nat}{d:Dt},Reps K H l vs->l[i]?=ς d->∃v,vs[i]?=ς v/\Rep K H d v
 |[],vs,i,d,h,e=>by simp at e
 |d0::l,vs,0,d,h,e=>by unfold Reps at h;have⟨v,ws,rfl,h2,_⟩:=h;simp at e;subst e;exact⟨v,rfl,h2⟩
 |d0::l,vs,i+1,d,h,e=>by unfold Reps at h;have⟨v,ws,rfl,_,O⟩:=h;have⟨u,U,e2⟩:=Reps.get (i:=i) O ‹e›;exact⟨u,‹U›,e2⟩
theorem Reps.append:∀{l m:η Dt}{vs ws:η V},Reps K H l vs->Reps K H m ws->Reps K H (l++m) (vs++ws)
 |[],m,vs,ws,h,h'=>by unfold Reps at h;rw[h];exact h'
 |d::l,m,vs,ws,h,h'=>by unfold Reps at h;have⟨v,us,rfl,h2,O⟩:=h;show Reps K H (d::(l++m)) (v::(us++ws));unfold Reps;exact⟨v,_,rfl,h2,Reps.append O h'⟩
theorem Reps.one{d:Dt}{v:V}(h:Rep K H d v):Reps K H [d] [v]:=by unfold Reps;exact⟨v,[],rfl,h,by unfold Reps;rfl⟩
theorem Reps.take:∀{l:η Dt}{vs:η V}(n:Nat),Reps K H l vs->Reps K H (l.take n) (vs.take n)
 |_,_,0,_=>by simp[Reps]
 |[],vs,n+1,h=>by unfold Reps at h;rw[h];simp[Reps]
 |d::l,vs,n+1,h=>by unfold Reps at h;have⟨v,us,rfl,h2,O⟩:=h;show Reps K H (d::l.take n) (v::us.take n);unfold Reps;exact⟨v,_,rfl,h2,Reps.take n O⟩
theorem Reps.drop:∀{l:η Dt}{vs:η V}(n:Nat),Reps K H l vs->Reps K H (l.drop n) (vs.drop n)
 |_,_,0,h=>h
 |[],vs,n+1,h=>by unfold Reps at h;rw[h];simp[Reps]
 |d::l,vs,n+1,h=>by unfold Reps at h;have⟨v,us,rfl,h2,O⟩:=h;exact Reps.drop n O
variable{u:η (Key×V)}
section
variable{X:Cx}{J0:η (J4×Obj)}{σ:St}{H:Hp}{s:qa7}{K:xA9}
theorem Inv.notBoth{ys:η V}(I:Inv X J0 σ H s)(h:SqL X.K H a xs)(h':SqT X.K H a ys):False:=by have⟨J3,r,pl,_⟩:=I.list h;have⟨its',W,pt,_⟩:=I.tuple h';have⟨o,n,e,hc,_⟩:=pl;have⟨o',U,O,_⟩:=pt;rw[e]at U;cases U;rw[hc]at O;injection O with z;exact absurd z Ω
theorem D8{w:η (Key×V)}(h:Rd H a (.dK u))(h':Rd H a (.dK w)):u=w:=by rcases h with h|⟨o,h⟩<;>rcases h' with h'|⟨o',h'⟩<;>rw[h]at h'<;>cases h'<;>rfl
theorem D9{u w:η (η Key×V)}(h:Rd H a (.dT u))(h':Rd H a (.dT w)):u=w:=by rcases h with h|⟨o,h⟩<;>rcases h' with h'|⟨o',h'⟩<;>rw[h]at h'<;>cases h'<;>rfl
theorem gy{u:HO}(h:Rd H a u):∃o,H a=ς o:=by
 rcases h with h|⟨o,h⟩
 .exact⟨_,h⟩
 .exact⟨_,h⟩
theorem Inv.kNone(I:Inv X J0 σ H s){o:Obj}(h:X.K.lookup a=ς o):H a=ψ:=(I.bs a o (I.ok.mod.kin a o h)).2
theorem Inv.sqT_dK(I:Inv X J0 σ H s)(h:SqT X.K H a xs)(h':Rd H a (.dK u)):False:=by
 rcases h with h|⟨o,_,_,h,_⟩
 .rcases h' with h'|⟨o',h'⟩<;>rw[h]at h'<;>cases h'
 .have⟨o',e⟩:=gy h';rw[I.kNone h]at e;cases e
theorem Inv.sqT_dT(I:Inv X J0 σ H s){u:η (η Key×V)}(h:SqT X.K H a xs)(h':Rd H a (.dT u)):False:=by
 rcases h with h|⟨o,_,_,h,_⟩
 .rcases h' with h'|⟨o',h'⟩<;>rw[h]at h'<;>cases h'
 .have⟨o',e⟩:=gy h';rw[I.kNone h]at e;cases e
theorem Inv.sqL_dK(I:Inv X J0 σ H s)(h:SqL X.K H a xs)(h':Rd H a (.dK u)):False:=by
 rcases h with h|⟨o,_,_,h,_⟩
 .rcases h with h|⟨o,h⟩<;>rcases h' with h'|⟨o',h'⟩<;>rw[h]at h'<;>cases h'
 .have⟨o',e⟩:=gy h';rw[I.kNone h]at e;cases e
theorem Inv.sqL_dT(I:Inv X J0 σ H s){u:η (η Key×V)}(h:SqL X.K H a xs)(h':Rd H a (.dT u)):False:=by
 rcases h with h|⟨o,_,_,h,_⟩
 .rcases h with h|⟨o,h⟩<;>rcases h' with h'|⟨o',h'⟩<;>rw[h]at h'<;>cases h'
 .have⟨o',e⟩:=gy h';rw[I.kNone h]at e;cases e
theorem tX{w:η (η Key×V)}(h:Rd H a (.dK u))(h':Rd H a (.dT w)):False:=by rcases h with h|⟨o,h⟩<;>rcases h' with h'|⟨o',h'⟩<;>rw[h]at h'<;>cases h'
noncomputable def aS:Dt->Nat
 |.non=>0
 |.bl _=>1
 |.int _=>2
 |.str _=>3
 |.t _=>4
 |.e _=>5
 |.dct _ _=>6
 |.dcT _ _=>7
theorem bm(I:Inv X J0 σ H s){d e:Dt}{v:V}(h:Rep X.K H d v)(h':Rep X.K H e v):aS d=aS e:=by
 cases d<;>cases e<;>first
  |rfl
  |(rwa[Rep]at h h';subst h;cases h';done)
  |(rwa[Rep]at h h';have⟨_,_,e,_⟩:=h';rw[h]at e;cases e;done)
  |(rwa[Rep]at h h';have⟨_,_,e,_⟩:=h;rw[h']at e;cases e;done)
  | (rwa[Rep]at h h';have⟨_,_,rfl,h2,_⟩:=h;have⟨_,_,e,O,_⟩:=h';cases e
     first
      |exact(I.sqT_dK h2 O).elim
      |exact(I.sqT_dK O h2).elim
      |exact(I.sqT_dT h2 O).elim
      |exact(I.sqT_dT O h2).elim
      |exact(I.notBoth h2 O).elim
      |exact(I.notBoth O h2).elim
      |exact(I.sqL_dK h2 O).elim
      |exact(I.sqL_dK O h2).elim
      |exact(I.sqL_dT h2 O).elim
      |exact(I.sqL_dT O h2).elim
      |exact(tX h2 O).elim
      |exact(tX O h2).elim)
mutual
theorem j8(I:Inv X J0 σ H s):∀(d e:Dt)(v:V),Rep X.K H d v->Rep X.K H e v->peq d e=θ:=λd=>by
 match d with
 |.t l=>
  intro e v h h';have hk:=bm I h h';cases e<;>first|(simp[aS]at hk;done)|skip
  rwa[Rep]at h h';have⟨a,vs,rfl,h2,h3⟩:=h;have⟨b,ws,e,h2',h3'⟩:=h';cases e;have:=I.tuple_inj h2 h2';subst this;exact reps_inj I l _ _ h3 h3'
 |.e l=>
  intro e v h h';have hk:=bm I h h';cases e<;>first|(simp[aS]at hk;done)|skip
  rwa[Rep]at h h';have⟨a,vs,rfl,h2,h3⟩:=h;have⟨b,ws,e,h2',h3'⟩:=h';cases e;have:=I.list_inj h2 h2';subst this;exact reps_inj I l _ _ h3 h3'
 |.dct ks l=>
  intro e v h h';have hk:=bm I h h';cases e<;>first|(simp[aS]at hk;done)|skip
  rwa[Rep]at h h';have⟨a,vs,rfl,h2,h3,h4⟩:=h;have⟨b,ws,e,h2',h3',h4'⟩:=h';cases e;have:=D8 h2 h2';subst this;subst h3 h3';exact qc7.mpr ⟨decide_eq_true rfl,reps_inj I l _ _ h4 h4'⟩
 |.dcT ks l=>
  intro e v h h';have hk:=bm I h h';cases e<;>first|(simp[aS]at hk;done)|skip
  rwa[Rep]at h h';have⟨a,vs,rfl,h2,h3,h4⟩:=h;have⟨b,ws,e,h2',h3',h4'⟩:=h';cases e;have:=D9 h2 h2';subst this;subst h3 h3';exact qc7.mpr ⟨decide_eq_true rfl,reps_inj I l _ _ h4 h4'⟩
 |.non=>intro e v h h';have hk:=bm I h h';cases e<;>first|(simp[aS]at hk;done)|rfl
 |.bl b=>intro e v h h';have hk:=bm I h h';cases e<;>first|(simp[aS]at hk;done)|(rwa[Rep]at h h';rw[h]at h';cases h';exact cQ _)
 |.int b=>intro e v h h';have hk:=bm I h h';cases e<;>first|(simp[aS]at hk;done)|(rwa[Rep]at h h';rw[h]at h';cases h';exact cQ _)
 |.str b=>intro e v h h';have hk:=bm I h h';cases e<;>first|(simp[aS]at hk;done)|(rwa[Rep]at h h';rw[h]at h';cases h';exact cQ _)
theorem reps_inj(I:Inv X J0 σ H s):∀(l m:η Dt)(vs:η V),Reps X.K H l vs->Reps X.K H m vs->peqs l m=θ:=λl=>by
 match l with
 |[]=>
  intro m vs h h';cases m with
  |nil=>rfl
  |cons e m=>unfold Reps at h h';have⟨v,ws,e,_⟩:=h';rw[h]at e;cases e
 |d::l=>
  intro m vs h h';cases m with
  |nil=>unfold Reps at h h';have⟨v,ws,e,_⟩:=h;rw[h']at e;cases e
  |cons e m=>unfold Reps at h h';have⟨v,ws,rfl,h2,h3⟩:=h;have⟨v',ws',e',h2',h3'⟩:=h';cases e';rw[pqc,j8 I d _ _ h2 h2',reps_inj I l _ _ h3 h3'];rfl
end
end
end L2
namespace L2
open PySem PySem.Spec PyProof.Rows
mutual
def bu:Dt->Dt->Bool
 |.t l,.t m=>cmpbs l m
 |.e l,.e m=>cmpbs l m
 |d,e=>decide (aS d<4)&&decide (aS e<4)
def cmpbs:η Dt->η Dt->Bool
 |d::l,e::m=>bu d e&&cmpbs l m
 |_,_=>θ
end
theorem bA:∀{l m:η Dt}{j:Nat}{d e:Dt},cmpbs l m=θ->l[j]?=ς d->m[j]?=ς e->bu d e=θ
 |[],_,j,d,e,_,h,_=>by simp at h
 |_::_,[],j,d,e,_,_,h=>by simp at h
 |d0::l,O::m,0,d,e,h,h1,h2=>by rwa[cmpbs,qa1]at h;simp at h1 h2;subst h1 h2;exact h.1
 |d0::l,O::m,j+1,d,e,h,h1,h2=>by rwa[cmpbs,qa1]at h;exact bA (j:=j) h.2 ‹h1› ‹h2›
theorem bU:∀{l:η Dt}{j:Nat}{d:Dt},l[j]?=ς d->cR d<=deeps l
 |[],j,d,h=>by simp at h
 |d0::l,0,d,h=>by simp at h;subst h;rwa[deeps];exact Nat.le_max_left ..
 |d0::l,j+1,d,h=>by rwa[deeps];exact qd7 (bU (j:=j) ‹h›) (Nat.le_max_right ..)
def aM(l m:η Dt)(j:Nat):Bool:=peq (l.getD j .non) (m.getD j .non)
theorem aP:∀(l m:η Dt),peqs l m=((qc8 (min l.length m.length)).all (aM l m)&&l.length==m.length)
 |[],[]=>rfl
 |[],_::_=>rfl
 |_::_,[]=>by show ξ=_;simp
 |d::l,e::m=>by
  have O:=aP l m;rwa[pqc,O,qb8];rw[show min (l.length+1) (m.length+1)=min l.length m.length+1 by lia,List.range_succ_eq_map,qd4,zf6];have W:aM (d::l) (e::m) 0=peq d e:=rfl
  have e2:(aM (d::l) (e::m) ∘ Nat.succ)=aM l m:=by funext j;rfl
  have U:(l.length+1==m.length+1)=(l.length==m.length):=by rw[qo7];simp
  rw[W,e2,U,qy3]
variable{K:xA9}
section
variable{X:Cx}{J0:η (J4×Obj)}{σ:St}{H:Hp}{s:qa7}
theorem aK{l:η Dt}{vs:η V}{J3:η Value}(h:Reps X.K H l vs)(r:Vals vs J3){j:Nat}(U:j<J3.length):∃d v,l[j]?=ς d/\Rep X.K H d v/\RelV v J3[j]:=by
 have hl:j<l.length:=by rw[<- h.length,r.length];exact U
 have⟨v,Y,e2⟩:=h.get (i:=j) (d:=l[j]) (by simp[hl]);have⟨u,O,W⟩:=r.get Y
 have:J3[j]=u:=by have:=gQ U;rw[this]at O;exact qd3 O
 exact⟨l[j],v,by simp[hl],e2,by rw[this];exact W⟩
theorem tY(I:Inv X J0 σ H s):∀(n:Nat){A:qk4}{d e:Dt}{v w:V}{u u':Value},cR d<=n->A.units+n<cLine->bu d e=θ->Rep X.K H d v->Rep X.K H e w->RelV v u->RelV w u'->qf1 A s u u' (peq d e):=by
 intro n;induction n with
 |zero=>
  intro A d e v w u u' hd hu hc h h' r r'
  cases d<;>cases e<;>first
   |(rwa[Rep]at h h';subst h h';exact dL r r' rfl rfl)
   |(rwa[cR]at hd;lia)
   |(simp[bu,aS]at hc)
 |succ n ih=>
  intro A d e v w u u' hd hu hc h h' r r';cases d with
  |t l=>
   cases e with
   |t m=>
    have h0:=h;have h0':=h';rwa[Rep]at h h';have⟨a,vs,rfl,h2,h3⟩:=h;have⟨b,ws,rfl,O,Z⟩:=h';cases r;cases r';by_cases W:a=b
    .subst W;have:=j8 I _ _ _ h0 h0';rw[this];exact qw3 _
    have⟨J3,rv,pt,_⟩:=I.tuple h2;have⟨its',rv',pt',_⟩:=I.tuple O;have n1:J3.length=l.length:=by rw[<- h3.length,rv.length]
    have n2:its'.length=m.length:=by rw[<- Z.length,rv'.length]
    rwa[pqt,pql];rw[aP,<- n1,<- n2];rwa[cR]at hd;rwa[bu]at hc
    have key:=qz1.tuples (A:=A) (e:=aM l m) pt pt' Θ (λj h1 h2=>by
     have h1':j<J3.length:=‹h1›
     have O:j<its'.length:=‹h2›
     have⟨d,v,g1,g2,g3⟩:=aK h3 rv h1';have⟨e,w,Y,g2',g3'⟩:=aK Z rv' O;have:aM l m j=peq d e:=by unfold aM;rw[qb0,qb0,g1,Y];rfl
     rw[this];have:=ih (A:=A.in1) (qd7 (bU g1) Θ) (show A.units+1+n<cLine by lia) (bA hc g1 Y) g2 g2' g3 g3';simpa using this)
    have key':qz1 A s (.ref a) (.ref b) ((qc8 (min J3.length its'.length)).all (aM l m)&&J3.length==its'.length):=‹key›
    exact qx6 W key'
   |_=>exact absurd hc (by simp[bu,aS])
  |e l=>
   cases e with
   |e m=>
    have h0:=h;have h0':=h';rwa[Rep]at h h';have⟨a,vs,rfl,h2,h3⟩:=h;have⟨b,ws,rfl,O,Z⟩:=h';cases r;cases r';by_cases W:a=b
    .subst W;have:=j8 I _ _ _ h0 h0';rw[this];exact qw3 _
    have⟨J3,rv,pt,_⟩:=I.list h2;have⟨its',rv',pt',_⟩:=I.list O;have n1:J3.length=l.length:=by rw[<- h3.length,rv.length]
    have n2:its'.length=m.length:=by rw[<- Z.length,rv'.length]
    rwa[pqt,pql];rw[aP,<- n1,<- n2];rwa[cR]at hd;rwa[bu]at hc;by_cases U:J3.length=its'.length
    .have key:=qz1.lists (A:=A) (e:=aM l m) pt.isList pt'.isList ‹U› Θ (λj h1 h2=>by
      have h1':j<J3.length:=‹h1›
      have O:j<its'.length:=‹h2›
      have⟨d,v,g1,g2,g3⟩:=aK h3 rv h1';have⟨e,w,Y,g2',g3'⟩:=aK Z rv' O;have:aM l m j=peq d e:=by unfold aM;rw[qb0,qb0,g1,Y];rfl
      rw[this];have:=ih (A:=A.in1) (qd7 (bU g1) Θ) (show A.units+1+n<cLine by lia) (bA hc g1 Y) g2 g2' g3 g3';simpa using this)
     have e1:(J3.length==its'.length)=θ:=‹U›
     rw[e1,qn8,show min J3.length its'.length=J3.length by lia];exact qx6 W ‹key›
    .have e1:(J3.length==its'.length)=ξ:=‹U›
     rw[e1,zd3];exact qx6 W (qz2 pt.isList pt'.isList ‹U› Θ)
   |_=>exact absurd hc (by simp[bu,aS])
  |non=>cases e<;>first|(rwa[Rep]at h h';subst h h';exact dL r r' rfl rfl)|(simp[bu,aS]at hc)
  |bl b=>cases e<;>first|(rwa[Rep]at h h';subst h h';exact dL r r' rfl rfl)|(simp[bu,aS]at hc)
  |int b=>cases e<;>first|(rwa[Rep]at h h';subst h h';exact dL r r' rfl rfl)|(simp[bu,aS]at hc)
  |str b=>cases e<;>first|(rwa[Rep]at h h';subst h h';exact dL r r' rfl rfl)|(simp[bu,aS]at hc)
  |dct ks l=>cases e<;>(simp[bu,aS]at hc)
  |dcT ks l=>cases e<;>(simp[bu,aS]at hc)
theorem zB (I:Inv X J0 σ H s) {A:qk4} {d e:Dt} {v w:V} {u u':Value} (hq:(∃ l m,d=.t l/\e=.t m)\/∃ l m,d=.e l/\e=.e m) (hu:A.units+cR d<cLine) (hc:bu d e=θ) (h:Rep X.K H d v) (h':Rep X.K H e w) (r:RelV v u) (r':RelV w u') :
  qz1 A s u u' (peq d e)/\zc6 A s u u' (!peq d e):=by
 rcases hq with ⟨l,m,rfl,rfl⟩|⟨l,m,rfl,rfl⟩
 .rwa[Rep]at h h';have⟨a,vs,rfl,h2,h3⟩:=h;have⟨b,ws,rfl,U,Z⟩:=h';cases r;cases r';have⟨J3,rv,pt,_⟩:=I.tuple h2;have⟨its',rv',W,_⟩:=I.tuple U;have n1:J3.length=l.length:=by rw[<- h3.length,rv.length]
  have n2:its'.length=m.length:=by rw[<- Z.length,rv'.length]
  rwa[pqt,pql];rw[aP,<- n1,<- n2];rwa[cR]at hu;rwa[bu]at hc
  have he:∀j (h1:j<J3.toArray.size)(h2:j<its'.toArray.size),qf1 A.in1 s J3.toArray[j] its'.toArray[j] (aM l m j):=λj h1 h2=>by
   have h1':j<J3.length:=‹h1›
   have U:j<its'.length:=‹h2›
   have⟨d,v,g1,g2,g3⟩:=aK h3 rv h1';have⟨e,w,Y,g2',g3'⟩:=aK Z rv' U;have:aM l m j=peq d e:=by unfold aM;rw[qb0,qb0,g1,Y];rfl
   rw[this];have:=tY I (deeps l) (A:=A.in1) (bU g1) (show A.units+1+deeps l<cLine by lia) (bA hc g1 Y) g2 g2' g3 g3';simpa using this
  exact⟨‹qz1.tuples (A:=A) (e:=aM l m) pt W Θ he›,‹zc6.tuples (A:=A) (e:=aM l m) pt W Θ he›⟩
 .rwa[Rep]at h h';have⟨a,vs,rfl,h2,h3⟩:=h;have⟨b,ws,rfl,U,Z⟩:=h';cases r;cases r';have⟨J3,rv,pt,_⟩:=I.list h2;have⟨its',rv',W,_⟩:=I.list U;have n1:J3.length=l.length:=by rw[<- h3.length,rv.length]
  have n2:its'.length=m.length:=by rw[<- Z.length,rv'.length]
  rwa[pqt,pql];rw[aP,<- n1,<- n2];rwa[cR]at hu;rwa[bu]at hc;by_cases O:J3.length=its'.length
  .have he:∀j (h1:j<J3.toArray.size)(h2:j<its'.toArray.size),qf1 A.in1 s J3.toArray[j] its'.toArray[j] (aM l m j):=λj h1 h2=>by
    have h1':j<J3.length:=‹h1›
    have U:j<its'.length:=‹h2›
    have⟨d,v,g1,g2,g3⟩:=aK h3 rv h1';have⟨e,w,Y,g2',g3'⟩:=aK Z rv' U;have:aM l m j=peq d e:=by unfold aM;rw[qb0,qb0,g1,Y];rfl
    rw[this];have:=tY I (deeps l) (A:=A.in1) (bU g1) (show A.units+1+deeps l<cLine by lia) (bA hc g1 Y) g2 g2' g3 g3';simpa using this
   have e1:(J3.length==its'.length)=θ:=‹O›
   rw[e1,qn8,show min J3.length its'.length=J3.length by lia];exact⟨by simpa using qz1.lists (A:=A) (e:=aM l m) pt.isList W.isList ‹O› Θ he,by simpa using zc6.lists (A:=A) (e:=aM l m) pt.isList W.isList ‹O› Θ he⟩
  .have e1:(J3.length==its'.length)=ξ:=‹O›
   rw[e1,zd3];exact⟨qz2 pt.isList W.isList ‹O› Θ,zc6.lists_lengths pt.isList W.isList ‹O› Θ⟩
def xm(K:xA9)(O:Bool):R2:=λx y H Q=>∃d e,((∃l m,d=.t l/\e=.t m)\/∃l m,d=.e l/\e=.e m)/\Rep K H d x/\Rep K H e y/\bu d e=θ/\cR d<=60/\Q (.bl (if O then !peq d e else peq d e)) H
theorem Bt{k:Nat}(Y:Room k X.A)(W:X.K=K):OpR X (qe2 .Eq) (xm K ξ):=by subst W;intro J0 s σ H x y v u Q I rx ry h;have⟨d,e,U,Z,he,hc,O,q⟩:=h;have hu:=Y.units;exact(zB I U Θ hc Z he rx ry).1 _ _ _ _ ⟨.bl (peq d e),H,I,rfl,q⟩
theorem Bu{k:Nat}(Y:Room k X.A)(W:X.K=K):OpR X (qe2 .NotEq) (xm K θ):=by subst W;intro J0 s σ H x y v u Q I rx ry h;have⟨d,e,U,Z,he,hc,O,q⟩:=h;have hu:=Y.units;exact(zB I U Θ hc Z he rx ry).2 _ _ _ _ ⟨.bl (!peq d e),H,I,rfl,q⟩
end
end L2
namespace L2
open PySem PySem.Spec
noncomputable abbrev vtl:η Value:=[.type "ValueError",.type "Exception",.type "BaseException",.type "object"]
structure XCl(K:xA9)(C D f:J4):Prop where
 obj:∃dd nm bs ns qn sn sub ab col k0 k1 k2 k3 k5,K.lookup C=ς (excClassObj nm qn C ns bs (.ref D::vtl) θ sn sub ab col dd k0 k1 k2 k3 k5 "ValueError.__new__")
 init:xB9 K (.ref C) "__init__"=ς (ς (.ref f))
 fn:xH9 K (.ref f)=θ
 sa:xB9 K (.ref C) "__setattr__"=ς (ς (.builtin "object.__setattr__"))
 ga:xB9 K (.ref C) "__getattribute__"=ς (ς (.builtin "BaseException.__getattribute__"))
 gn:xB9 K (.ref C) "__getattr__"=ς ψ
 kp:xF9 K (.ref C)=θ
open PySem PySem.Spec PyProof.Rows
def xcP(x C dx:J4)(h:Heap):Prop:=∃o vs,h.get? x=ς o/\o.cls=.ref C/\o.dict=ς dx/\o.data=.fields vs
def xdP(dx:J4)(fs:η (Str×V))(h:Heap):Prop:=∃mA,h.Ns1 dx mA/\(∀f,RelO (fs.lookup f) (mA f))/\PySem.Within mA (fs.map (·.1))
noncomputable abbrev XC(x C dx:J4):HO:=.ext (xcP x C dx)
noncomputable abbrev XD(dx:J4)(fs:η (Str×V)):HO:=.ext (xdP dx fs)
section
variable{P:qe3}{w:J5}{K:xA9}{mg:Str->ζ Value}{base:Heap}{N:η Str}{qual:Str}{scope:J9}{f:J4}{cd:Value}{A:qk4}{outer:η Env}{s s1:qa7}{H H1:Hp}{E:XK}
 {J0:η (J4×Obj)} {σ:St} {x C dx:J4} {B:Heap}
end
section
variable{X:Cx}{P:qe3}{w:J5}{K:xA9}{mg:Str->ζ Value}{base:Heap}{N:η Str}{qual:Str}{scope:J9}{fa:J4}{cd:Value}{A:qk4}{outer:η Env}{s:qa7}{H:Hp}{E:XK}
 {k:Nat} {f C D:J4} {fd:qu0} {ps ns:η Str} {x:Str} {p pos pos':Pos} {e:J8} {es:η J8} {t:TA}
end
abbrev NT(o:HO):Prop:=∀vs,o≠.t vs
structure Step(F H F' H':Hp):Prop where
 hh:Same H H'
 ff:Same F F'
 fh:Same F' H'
 nw:∀b o,F' b=ς o->F b=ς o\/H b=ψ\/∃vs,H b=ς (.t vs)
section
variable{F H F' H' F1 H1:Hp}{p:J4}{o:HO}
theorem Step.refl(h:Same F H):Step F H F H:=⟨Same.refl _,Same.refl _,h,λ_ _ e=>.inl e⟩
theorem Step.trans(a:Step F H F1 H1)(b:Step F1 H1 F' H'):Step F H F' H':=
 ⟨a.hh.trans b.hh,a.ff.trans b.ff,b.fh,λc o e=>by
  rcases b.nw c o e with z|z|⟨vs,z⟩
  .exact a.nw c o z
  .exact .inr (.inl (a.hh.free z))
  .cases q:H c with
   |none=>exact .inr (.inl rfl)
   |some u=>have:=a.hh c u q;rw[z]at this;cases this;exact .inr (.inr ⟨vs,rfl⟩)⟩
theorem Same.upd(hp:H p=ψ):Same H (upd H p o):=λb u e=>by rw[af (aD e hp)];exact e
theorem Step.new(h:Same F H)(hp:H p=ψ):Step F H (upd F p o) (upd H p o) where
 hh:=Same.upd hp
 ff:=Same.upd (h.free hp)
 fh:=λb u e=>by
  by_cases hb:b=p
  .subst hb;rw[ac]at e ⊢;exact e
  .rw[af hb]at e ⊢;exact h _ _ e
 nw:=λb u e=>by
  by_cases hb:b=p
  .subst hb;exact .inr (.inl hp)
  .rw[af hb]at e;exact .inl e
theorem Step.made(h:Same F H)(hp:H p=ψ):Step F H F (upd H p o) where
 hh:=Same.upd hp
 ff:=Same.refl _
 fh:=h.trans (Same.upd hp)
 nw:=λb u e=>.inl e
end
noncomputable def zC(K:xA9)(c:Str):ζ J4:=match xD9 K qf2 c with
 |some (ς (.ref C))=>ς C
 |_=>ψ
def RepX(K:xA9)(F:Hp)(c:Str)(l:η (Str×Dt))(v:V):Prop:=∃x C D f dx vs,v=.ref x/\zC K c=ς C/\zC K "DimError"=ς D/\XCl K C D f/\(∀g∈l.map (·.1),NoAttr K C g)∧F x=ς (XC x C dx)/\F dx=ς (XD dx ((l.map (·.1)).zip vs))/\Reps K F (l.map (·.2)) vs
variable{K:xA9}{F':Hp}
theorem RepX.same{F:Hp}{c:Str}{l:η (Str×Dt)}{v:V}(O:Same F F')(h:RepX K F c l v):RepX K F' c l v:=by have⟨x,C,D,f,dx,vs,e,h1,h2,U,h4,Y,W,Z⟩:=h;exact⟨x,C,D,f,dx,vs,e,h1,h2,U,h4,O _ _ Y,O _ _ W,Z.same O⟩
set_option genInjectivity true in
inductive T where
 |f (d:Dt)|e (l:List Dt)|dct (l:List (Key×Dt))|dcT (l:List (List Key×Dt))|fn (a:J4) (F0:Hp)|exc (c:Str) (l:List (Str×Dt))|rse (c:Str) (l:List (Str×Dt))
noncomputable def T.d:T->ζ Dt
 |.f d=>ς d
 |.e l=>ς (.e l)
 |.dct l=>ς (.dct (l.map (·.1)) (l.map (·.2)))
 |.dcT l=>ς (.dcT (l.map (·.1)) (l.map (·.2)))
 |.fn _ _|.exc _ _|.rse _ _=>ψ
noncomputable def T.own:T->Bool
 |.f _|.fn _ _|.exc _ _|.rse _ _=>ξ
 |_=>θ
def Own(K:xA9)(F H:Hp):T->V->(J4->Prop)->Prop
 |.f d,v,_=>Rep K F d v
 |.e l,v,S=>∃a vs,v=.ref a/\S a/\H a=ς (.e vs)/\Reps K F l vs
 |.dct l,v,S=>∃a J1,v=.ref a/\S a/\H a=ς (.dK J1)/\J1.map (·.1)=l.map (·.1)/\Reps K F (l.map (·.2)) (J1.map (·.2))
 |.dcT l,v,S=>∃a J1,v=.ref a/\S a/\H a=ς (.dT J1)/\J1.map (·.1)=l.map (·.1)/\Reps K F (l.map (·.2)) (J1.map (·.2))
 |.fn a F0,v,_=>v=.ref a/\Same F0 F
 |.exc c l,v,_=>RepX K F c l v
 |.rse _ _,_,_=>False
def RepB(K:xA9)(F H:Hp):Dt->V->Prop
 |.e l,v=>∃a vs,v=.ref a/\SqL K H a vs/\Reps K F l vs
 |.dct ks l,v=>∃a J1,v=.ref a/\Rd H a (.dK J1)/\J1.map (·.1)=ks/\Reps K F l (J1.map (·.2))
 |.dcT ks l,v=>∃a J1,v=.ref a/\Rd H a (.dT J1)/\J1.map (·.1)=ks/\Reps K F l (J1.map (·.2))
 |.non,v=>v=.non
 |.bl b,v=>v=.bl b
 |.int i,v=>v=.int i
 |.str x,v=>v=.str x
 |.t l,v=>∃a vs,v=.ref a/\SqT K F a vs/\Reps K F l vs
section
variable{K:xA9}{F H F' H':Hp}{t:T}{v:V}{d:Dt}{S:J4->Prop}
theorem Own.step(U:Same F F')(W:∀b o,S b->H b=ς o->H' b=ς o)(h:Own K F H t v S):Own K F' H' t v S:=by
 induction t with
 |f d=>exact Rep.same U h
 |e l=>have⟨a,vs,e,O,h1,h2⟩:=h;exact⟨a,vs,e,O,W _ _ O h1,h2.same U⟩
 |dct l=>have⟨a,vs,e,O,h1,h2,Y⟩:=h;exact⟨a,vs,e,O,W _ _ O h1,h2,Y.same U⟩
 |dcT l=>have⟨a,vs,e,O,h1,h2,Y⟩:=h;exact⟨a,vs,e,O,W _ _ O h1,h2,Y.same U⟩
 |fn a F0=>exact⟨h.1,h.2.trans U⟩
 |exc c l=>exact RepX.same U h
 |rse c l=>exact h
theorem RepB.of(O:Same F H)(h:Rep K F d v):RepB K F H d v:=by
 cases d with
 |e l=>rwa[Rep]at h;have⟨a,vs,e,h1,h2⟩:=h;exact⟨a,vs,e,O.seq h1,h2⟩
 |dct ks l=>rwa[Rep]at h;have⟨a,vs,e,h1,h2⟩:=h;exact⟨a,vs,e,O.rd h1,h2⟩
 |dcT ks l=>rwa[Rep]at h;have⟨a,vs,e,h1,h2⟩:=h;exact⟨a,vs,e,O.rd h1,h2⟩
 |t l=>rwa[Rep]at h;exact h
 |_=>rwa[Rep]at h;exact h
theorem RepB.rep(O:Same F H)(h:RepB K F H d v):Rep K H d v:=by
 cases d with
 |e l=>have⟨a,vs,e,h1,h2⟩:=h;rwa[Rep];exact⟨a,vs,e,h1,h2.same O⟩
 |dct ks l=>have⟨a,vs,e,h1,h2,U⟩:=h;rwa[Rep];exact⟨a,vs,e,h1,h2,U.same O⟩
 |dcT ks l=>have⟨a,vs,e,h1,h2,U⟩:=h;rwa[Rep];exact⟨a,vs,e,h1,h2,U.same O⟩
 |t l=>have⟨a,vs,e,h1,h2⟩:=h;rwa[Rep];exact⟨a,vs,e,O.tup h1,h2.same O⟩
 |_=>rwa[Rep];exact h
theorem Own.repB(U:Same F H)(h:Own K F H t v S)(O:t.d=ς d):RepB K F H d v:=by
 cases t with
 |f d=>cases O;exact RepB.of U h
 |e l=>cases O;have⟨a,vs,e,_,h1,h2⟩:=h;exact⟨a,vs,e,SqL.of h1,h2⟩
 |dct l=>cases O;have⟨a,vs,e,_,h1,h2⟩:=h;exact⟨a,vs,e,.inl h1,h2⟩
 |dcT l=>cases O;have⟨a,vs,e,_,h1,h2⟩:=h;exact⟨a,vs,e,.inl h1,h2⟩
 |fn a F0=>cases O
 |exc c l=>cases O
 |rse c l=>cases O
open Classical in
def j9(F H:Hp)(S:J4->Prop):Hp:=λb=>if S b then H b else F b
theorem gz{b:J4}(h:S b):j9 F H S b=H b:=if_pos h
theorem et{b:J4}(h:¬ S b):j9 F H S b=F b:=if_neg h
theorem kf(hs:∀b,S b->F b=ψ):Same F (j9 F H S):=λb o e=>by
 have:¬ S b:=λz=>by rw[hs b z]at e;cases e
 rw[et this];exact e
theorem oJ(O:Same F H):Same (j9 F H S) H:=λb o e=>by
 by_cases h:S b
 .rw[gz h]at e;exact e
 .rw[et h]at e;exact O _ _ e
theorem Own.freeze(hs:∀b,S b->F b=ψ)(h:Own K F H t v S)(O:t.d=ς d):Rep K (j9 F H S) d v:=by
 have U:=kf (H:=H) hs;cases t with
 |f d=>cases O;exact Rep.same U h
 |e l=>cases O;have⟨a,vs,e,q,h1,h2⟩:=h;rwa[Rep];exact⟨a,vs,e,SqL.of (by rw[gz q];exact h1),h2.same U⟩
 |dct l=>cases O;have⟨a,vs,e,q,h1,h2,W⟩:=h;rwa[Rep];exact⟨a,vs,e,.inl (by rw[gz q];exact h1),h2,W.same U⟩
 |dcT l=>cases O;have⟨a,vs,e,q,h1,h2,W⟩:=h;rwa[Rep];exact⟨a,vs,e,.inl (by rw[gz q];exact h1),h2,W.same U⟩
 |fn a F0=>cases O
 |exc c l=>cases O
 |rse c l=>cases O
end
abbrev De:=η (ζ T)
variable{a:J4}
section
variable{Φ:Fm}{δ:De}{σ:St}{F H F' H':Hp}
theorem aA{α:Type}{l:η (ζ α)}{i j:Nat}{x y:ζ α}(h:(l.set i x)[j]?=ς y):(i=j/\y=x)\/(i≠j/\l[j]?=ς y):=by
 by_cases O:i=j
 .subst O;left;rw[List.getElem?_set]at h;rwa[if_true]at h;split at h
  .cases h;exact⟨rfl,rfl⟩
  .cases h
 .right;rw[gN O]at h;exact⟨O,h⟩
theorem qM{t:T}{S:J4->Prop}(O:t.own=θ)(h:Own K F H t (.ref a) S):S a:=by
 cases t with
 |f d=>cases O
 |e l=>have⟨b,_,e,q,_⟩:=h;cases e;exact q
 |dct l=>have⟨b,_,e,q,_⟩:=h;cases e;exact q
 |dcT l=>have⟨b,_,e,q,_⟩:=h;cases e;exact q
 |fn b F0=>cases O
 |exc c l=>cases O
 |rse c l=>cases O
end
def KO(K:xA9)(F H:Hp)(t:T)(Q:VK):Prop:=∀v H' F' S,Step F H F' H'->Own K F' H' t v S->(∀b,S b->F' b=ψ/\H b=ψ/\∃o,H' b=ς o/\NT o)->Q v H'
def KL(K:xA9)(F H:Hp)(d:Dt)(Q:VK):Prop:=∀v H' F',Step F H F' H'->Rep K F' d v->Q v H'
section
variable{K:xA9}{F H F1 H1:Hp}{t:T}{d:Dt}{Q:VK}
theorem KO.step(k:KO K F H t Q)(st:Step F H F1 H1):KO K F1 H1 t Q:=λv H' F' S s o O=>k v H' F' S (st.trans s) o λb z=>⟨(O b z).1,st.hh.free (O b z).2.1,(O b z).2.2⟩
theorem KO.leaf(k:KO K F H (.f d) Q):KL K F H d Q:=λv H' F' st r=>k v H' F' (λ_=>False) st r λ_ z=>z.elim
theorem KL.here(k:KL K F H d Q)(O:Same F H){v:V}(r:Rep K F d v):Q v H:=k v H F (Step.refl O) r
theorem KL.to(U:t.d=ς d)(k:KL K F H d Q):KO K F H t Q:=λv H' F' S st o O=>by
 refine k v H' (j9 F' H' S) ⟨st.hh,st.ff.trans (kf λb z=>(O b z).1),oJ st.fh,λb u z=>?_⟩ (o.freeze (λb z=>(O b z).1) U);by_cases hb:S b
 .exact .inr (.inl (O b hb).2.1)
 .rw[et hb]at z;exact st.nw b u z
end
variable{X:Cx}{e:J8}
theorem PE.mono{t t':TE}(h:PE X e t)(m:∀ σ H Q,t' σ H Q->t σ H Q):PE X e t':=λJ0 s σ H Q I q=>h J0 s σ H Q I (m _ _ _ q)
theorem PT.mono{t t':TT}(h:PT X e t)(m:∀ σ H Q,t' σ H Q->t σ H Q):PT X e t':=λJ0 s σ H Q I q=>h J0 s σ H Q I (m _ _ _ q)
theorem PW.mono{t t':TT}(h:PW X e t)(m:∀ σ H Q,t' σ H Q->t σ H Q):PW X e t':=λO J0 s σ H Q I q=>h O J0 s σ H Q I (m _ _ _ q)
theorem PA.mono{e:η J8}{t t':TA}(h:PA X e t)(m:∀ σ H Q,t' σ H Q->t σ H Q):PA X e t':=λpos J0 s σ H Q I q=>h pos J0 s σ H Q I (m _ _ _ q)
variable{tg:J8}
theorem PI.mono{t t':TI}(h:PI X tg e t)(m:∀ σ H Q,t' σ H Q->t σ H Q):PI X tg e t':=λJ0 s σ H Q I q=>h J0 s σ H Q I (m _ _ _ q)
theorem PG.mono{t t':TG}(h:PG X e t)(m:∀v σ H Q,t' v σ H Q->t v σ H Q):PG X e t':=λJ0 s σ H v u Q I r q=>h J0 s σ H v u Q I r (m _ _ _ _ q)
theorem PS.mono{e:J6}{t t':TS}(h:PS X e t)(m:∀D σ H,t' D σ H->t D σ H):PS X e t':=λJ0 s σ H Q I q=>h J0 s σ H Q I (m _ _ _ q)
theorem PSs.mono{e:η J6}{t t':TS}(h:PSs X e t)(m:∀D σ H,t' D σ H->t D σ H):PSs X e t':=λJ0 s σ H Q I q=>h J0 s σ H Q I (m _ _ _ q)
theorem PI.or{t t':TI}(h:PI X tg e t)(h':PI X tg e t'):PI X tg e (λσ H Q=>t σ H Q\/t' σ H Q):=λJ0 s σ H Q I q=>q.elim (h J0 s σ H Q I) (h' J0 s σ H Q I)
variable{l ds:η Dt}{vs:η V}{H:Hp}
section
variable{X:Cx}{e a b c:J8}{f:De->ζ T}{g fa fb fc:De->ζ Dt}{pos:Pos}
noncomputable def kDBq(d:Dt):De->ζ Dt:=λ_=>ς d
def R2D(K:xA9)(r:R2)(g:Dt->Dt->ζ T):Prop:=∀F H x y vx vy (Q:VK) t,Same F H->RepB K F H x vx->RepB K F H y vy->g x y=ς t->KO K F H t Q->r vx vy H Q
noncomputable def qN:Dt->ζ Bool
 |.non=>ς ξ
 |.bl b=>ς b
 |.int i=>ς (i != 0)
 |.str x=>if x.length<=qa5 then ς ((x.length:Int) != 0)else ψ
 |.t l=>ς (!l.isEmpty)
 |.e l=>ς (!l.isEmpty)
 |_=>ψ
theorem eu{F:Hp}(h:Reps K F l vs):l.isEmpty=vs.isEmpty:=by
 cases l with
 |nil=>unfold Reps at h;rw[h];rfl
 |cons d l=>unfold Reps at h;have⟨v,ws,rfl,_⟩:=h;rfl
theorem xn{F:Hp}{d:Dt}{v:V}{b:Bool}(O:Same F H)(h:RepB K F H d v)(hb:qN d=ς b):AY K v H b:=by
 cases d with
 |non=>cases h;cases hb;rfl
 |bl x=>cases h;cases hb;rfl
 |int x=>cases h;cases hb;rfl
 |str x=>
  cases h;rwa[qN]at hb;split at hb
  .cases hb;exact⟨by assumption,rfl⟩
  .cases hb
 |t l=>have⟨a,vs,rfl,h1,h2⟩:=h;cases hb;exact .inr (.inl ⟨vs,O.tup h1,by rw[eu h2]⟩)
 |e l=>have⟨a,vs,rfl,h1,h2⟩:=h;cases hb;exact .inl ⟨vs,h1,by rw[eu h2]⟩
 |dct ks l=>cases hb
 |dcT ks l=>cases hb
variable{ta tb tc:De->ζ Bool}{rest:η J8}
theorem g9{F:Hp}{b:Bool}:Rep K F (.bl b) (.bl b):=by rwa[Rep]
theorem bh{F:Hp}{b:Int}:Rep K F (.int b) (.int b):=by rwa[Rep]
theorem eC{F:Hp}{b:Str}:Rep K F (.str b) (.str b):=by rwa[Rep]
theorem oK{F:Hp}:Rep K F .non .non:=by rwa[Rep]
variable{oa ob:De->ζ T}
def lH(K:xA9)(F H:Hp):η Dt->η V->Prop
 |[],vs=>vs=[]
 |d::l,vs=>∃v ws,vs=v::ws/\RepB K F H d v/\lH K F H l ws
variable{es:η J8}{fs:De->ζ (η Dt)}
theorem bP{F:Hp}{p:J4}{Q:VK}(k:KO K F H (.e ds) Q)(O:Same F H)(r:Reps K F ds vs)(hp:H p=ψ):Q (.ref p) (upd H p (.e vs)):=by
 refine k _ _ F (λb=>b=p) (Step.made O hp) ⟨p,vs,rfl,rfl,ac,r⟩ λb z=>?_
 subst z;exact⟨O.free hp,hp,_,ac,nofun⟩
def CRD(K:xA9)(r:η V->Hp->VK->Prop)(g:η Dt->ζ T):Prop:=∀F H ds vs (Q:VK) t,Same F H->lH K F H ds vs->g ds=ς t->KO K F H t Q->r vs H Q
variable{x:Str}{p:Pos}{id Ty:String}{sc:J9}{r:η V->Hp->VK->Prop}{gg:η Dt->ζ T}
end
variable{J:It}{xs:η V}
section
variable{X:Cx}{st:J6}{rest a b body:η J6}{g g1 g2:De->ζ Out}{e c tg iter:J8}{pos:Pos}{f:De->ζ T}{fd:De->ζ Dt}{tc:De->ζ Bool}{i:Nat}
def ua(K:xA9)(F':Hp)(J:It)(ds:η Dt)(ok:Hp->Prop):Prop:=∀(i:Nat)(H F:Hp),ok H->Same F H->Same F' F->(i<ds.length->J.go i H)/\(i=ds.length->J.stop i H)/\∀x H',i<ds.length->J.yld i H x H'->∃d F2,ds[i]?=ς d/\Step F H F2 H'/\Rep K F2 d x
theorem Plain.walk{ok:Hp->Prop}(pl:Plain J xs ok)(r:Reps K F' ds xs):ua K F' J ds ok:=λi H F O W ff=>by
 have⟨p1,p2,p3⟩:=pl i H O;have hl:=r.length;refine⟨λh=>p1 Θ,λh=>p2 Θ,λx H' hi hy=>?_⟩;have⟨rfl,Z⟩:=p3 x H' Θ hy;have U:ds[i]?=ς ds[i]:=by simp[hi]
 have⟨v,e,Y⟩:=r.get U;rw[Z]at e;cases e;exact⟨_,F,U,Step.refl W,Y.same ff⟩
end
variable{σ:St}{H1:Hp}
section
variable{X:Cx}{st:J6}{rest a b body:η J6}{g g1 g2:De->ζ Out}{e c tg iter l:J8}{pos:Pos}{f:De->ζ T}{fd:De->ζ Dt}{tc:De->ζ Bool}{i:Nat}{fi:De->ζ (η Dt)}
theorem Reps.same_get{F:Hp}(r:Reps K F ds xs){i:Nat}{x:V}(h:xs[i]?=ς x):∃d,ds[i]?=ς d/\Rep K F d x:=by
 have hl:=r.length;have hi:i<xs.length:=(gX h).1;have O:ds[i]?=ς ds[i]:=by simp[show i<ds.length by lia]
 have⟨v,e,U⟩:=r.get O;rw[h]at e;cases e;exact⟨_,O,U⟩
theorem oM{α:Type}{l:η α}{i:Nat}{d:α}(h:l[i]?=ς d):l.drop i=d::l.drop (i+1):=by have hi:i<l.length:=(gX h).1;rw[qy4 hi];congr 1;have:=(gX h).2;exact this
theorem ub{n:Nat}{g:TG}{tb:TS}{D:Ends}(O:Nat->St->Hp->Prop)(h0:O 0 σ H1)(W:∀i σ H,O i σ H->(i<n->J.go i H)/\(i=n->J.stop i H))
 (hs:∀i x σ H H',i<n->O i σ H->J.yld i H x H'->g x σ H' λY H2=>tb {D with nx:=O (i+1),ct:=O (i+1),bk:=D.nx} Y H2) (hd:∀ σ H,O n σ H->D.nx σ H):ForW g tb D J σ H1:=by
 refine⟨λi m σ H=>m=n-i/\i<=n/\O i σ H,⟨n,Ξ,qg8 _,h0⟩,?_⟩;rintro i m σ H ⟨rfl,hi,p⟩;have⟨Z,p2⟩:=W i σ H p;by_cases U:i<n
 .exact .inr ⟨Z U,O (i+1),λσ' H' p'=>⟨n-(i+1),Θ,rfl,U,p'⟩,λx H' y=>hs i x σ H H' U p y⟩
 .have e:i=n:=by lia
  subst e;exact .inl ⟨p2 rfl,hd σ H p⟩
noncomputable def ay(lo:Int)(n:Nat):η Dt:=(qc8 n).map λ(i:Nat)=>.int (lo+i)
theorem Reps.map{F:Hp}{α:Type}{f:α->Dt}{g:α->V}(h:∀x,Rep K F (f x) (g x)):∀l:η α,Reps K F (l.map f) (l.map g)
 |[]=>by simp[Reps]
 |x::l=>by rwa[qa3,Reps];exact⟨_,_,rfl,h x,Reps.map h l⟩
noncomputable def itD:Dt->ζ (η Dt)
 |.e l=>ς l
 |.t l=>ς l
 |_=>ψ
variable{p:Pos}{sc:J9}{x y:J8}{fs:De->ζ (η Dt)}
end
variable{D:J4}
section
variable{X:Cx}{elt tg iter:J8}{ifs:η J8}{scope:J9}{pos:Pos}{M:η Str}{src:η (ζ Nat)}{fi:De->ζ (η Dt)}{ft:De->ζ Bool}{fe:De->ζ Dt}
theorem xo{k j:Nat}{v:V}(h1:src[k]?=ς (ς j))(h2:σ[j]?=ς (ς v)):(aI src σ)[k]?=ς (ς v):=by unfold aI;rw[qa8,h1];simp[h2]
theorem Bv{k:Nat}{v:V}(h:(aI src σ)[k]?=ς (ς v)):∃j,src[k]?=ς (ς j)/\σ[j]?=ς (ς v):=by
 unfold aI at h;rw[qa8]at h;cases e:src[k]? with
 |none=>rw[e]at h;cases h
 |some o=>
  rw[e]at h;cases o with
  |none=>cases h
  |some j=>
   rwa[qa9,qa0,qt5]at h;refine⟨j,rfl,?_⟩;cases q:σ[j]? with
   |none=>rw[q]at h;cases h
   |some u=>rw[q]at h;rwa[qq6]at h;rw[h]
theorem qO{n:Nat}{g:TG}{tt:TT}{te:TE}{Q:VK}(O:Nat->Hp->Prop)(h0:O 0 (upd H1 D (.e [])))(Y:∀i H,O i H->(i<n->J.go i H)/\(i=n->J.stop i H))
 (hs:∀i x H H',i<n->O i H->J.yld i H x H'->g x (aI src σ) H' λW H2=>Wk (aI src σ) W/\tt W H2 λb Z=>if b=θ then te W Z λv H4=>∃ys,H4 D=ς (.e ys)/\ys.length<qa5/\O (i+1) (upd H4 D (.e (ys++[v])))else O (i+1) Z)
 (hd:∀H,O n H->Q (.ref D) H):zA src g tt te σ J H1 Q D:=by
 refine⟨λi m H=>m=n-i/\i<=n/\O i H,⟨n,Ξ,qg8 _,h0⟩,?_⟩;rintro i m H ⟨rfl,hi,p⟩;have⟨p1,p2⟩:=Y i H p;by_cases U:i<n
 .exact .inr ⟨p1 U,O (i+1),λH' p'=>⟨n-(i+1),Θ,rfl,U,p'⟩,λx H' y=>hs i x H H' U p y⟩
 .have e:i=n:=by lia
  subst e;exact .inl ⟨p2 rfl,hd H p⟩
end
section
variable{K:xA9}{F H:Hp}{Q:VK}
theorem KO.int{i:Int}(k:KO K F H (.f (.int i)) Q)(O:Same F H):Q (.int i) H:=k.leaf.here O bh
theorem KO.bl{i:Bool}(k:KO K F H (.f (.bl i)) Q)(O:Same F H):Q (.bl i) H:=k.leaf.here O g9
theorem KO.str{i:Str}(k:KO K F H (.f (.str i)) Q)(O:Same F H):Q (.str i) H:=k.leaf.here O eC
theorem KO.tup{p:J4}(k:KO K F H (.f (.t l)) Q)(O:Same F H)(r:Reps K F l vs)(hp:H p=ψ):Q (.ref p) (upd H p (.t vs)):=by refine k.leaf _ _ _ (Step.new O hp) ?_;rwa[Rep];exact⟨p,vs,rfl,SqT.of ac,r.same (Same.upd (O.free hp))⟩
end
noncomputable def cF(i j:Int):Bool:=(decide (-(2^64)<i)&&decide (i<2^64))||(decide (-(2^64)<j)&&decide (j<2^64))
variable{j:Int}
theorem xp{i:Int}(h:cF i j=θ):CMul i j:=by unfold cF at h;rwa[qh2,qa1,decide_eq_true_eq]at h;exact h
theorem eF{i:Int}(h1:-1000000000000000000<i)(h2:i<1000000000000000000):cF i j=θ:=by unfold cF;rwa[qh2,qa1,decide_eq_true_eq];left;lia
theorem kg{i:Int}(h1:-1000000000000000000<j)(h2:j<1000000000000000000):cF i j=θ:=by unfold cF;rwa[qh2,qa1,decide_eq_true_eq];right;lia
noncomputable def oN(i j:Int):Bool:=decide (0<=j)&&decide (j<=1000000)&&decide (i.natAbs<2^64)
theorem xq{i:Int}(h:oN i j=θ):AL i j:=by unfold oN at h;rwa[qa1,decide_eq_true_eq]at h;exact⟨h.1.1,h.1.2,h.2⟩
noncomputable def eG:Dt->Dt->ζ T
 |.int i,.int j=>ς (.f (.int (i+j)))
 |.str a,.str b=>if a.length+b.length<=qa5 then ς (.f (.str (a++b)))else ψ
 |.e l,.e m=>if l.length+m.length<=qa5 then ς (.e (l++m))else ψ
 |.t l,.t m=>if l.length+m.length<=qa5/\l≠[]/\m≠[]then ς (.f (.t (l++m)))else ψ
 |_,_=>ψ
noncomputable def uc:Dt->Dt->ζ T
 |.int i,.int j=>ς (.f (.int (i-j)))
 |_,_=>ψ
def hJ:Dt->Dt->ζ T
 |.int i,.int j=>if cF i j then ς (.f (.int (i*j)))else ψ
 |_,_=>ψ
noncomputable def eI:Dt->Dt->ζ T
 |.int i,.int j=>if 0<j then ς (.f (.int (i%j)))else ψ
 |_,_=>ψ
def xt:Dt->Dt->ζ T
 |.int i,.int j=>if oN i j then ς (.f (.int (i^j.toNat)))else ψ
 |_,_=>ψ
noncomputable def qQ(f:Int->Int->Int):Dt->Dt->ζ T
 |.int i,.int j=>ς (.f (.int (f i j)))
 |_,_=>ψ
noncomputable def xu(f:Int->Int->Bool):Dt->Dt->ζ T
 |.int i,.int j=>ς (.f (.bl (f i j)))
 |_,_=>ψ
variable{vx:V}
section
variable{X:Cx}
theorem xw:OpR X (qi0 .Add) (λx y H Q=>∃l b xs zs,x=.ref l/\y=.ref b/\SqL X.K H l xs/\SqL X.K H b zs/\xs.length+zs.length<=qa5/\∀p,H p=ψ->Q (.ref p) (upd H p (.e (xs++zs)))):=by
 intro J0 s σ H x y v u Q I rx ry h;have⟨l,b,xs,zs,rfl,rfl,hH,hB,hz,q⟩:=h;cases rx;cases ry;have⟨J3,r,pl,_⟩:=I.list hH;have⟨O,r2,pl2,_⟩:=I.list hB;have⟨⟨cls,dd,data,sl⟩,n,ho,hc,hd0,hd⟩:=pl;have⟨⟨cls2,dd2,Z,Y⟩,n2,ho2,U,hd02,W⟩:=pl2;simp only at hc hd U W;subst hc hd U W;have e:J3.toArray++O.toArray=(J3++O).toArray:=by simp
 refine qx3 ⟨_,ho,rfl⟩ ⟨_,ho2,rfl⟩ noFill_list_add seq_list_add PySem.F.slot_list_add PySem.F.entry_list_add (PySem.F.args_list_add_2 _ _) (list_addW l b J3.toArray O.toArray n n2 dd dd2 sl Y (by rw[qb5,qb5,<- r.length,<- r2.length];exact hz)) ⟨ho,ho2,?_⟩;rw[e];exact⟨.ref _,_,I.lnew (t':=s.toks) (r.append r2) (by rw[qc4];exact hz),rfl,q _ I.fresh⟩
abbrev jo(K:xA9):R2:=λx y H Q=>(rI0 (λi j=>.int (i+j)) x y H Q)\/(∃i j,x=.str i/\y=.str j/\i.length+j.length<=qa5/\Q (.str (i++j)) H)\/(∃l b xs zs,x=.ref l/\y=.ref b/\SqL K H l xs/\SqL K H b zs/\xs.length+zs.length<=qa5/\∀p,H p=ψ->Q (.ref p) (upd H p (.e (xs++zs))))\/zw K x y H Q
theorem oO:OpR X (qi0 .Add) (jo X.K):=OpR.or AM (OpR.or mO (OpR.or xw w8))
omit x in
theorem zD:R2D K (jo K) eG:=by
 intro F H x y vx vy Q t U W Y O k;unfold eG at O;rcases O
 .cases O;cases W;cases Y;exact .inl ⟨_,_,rfl,rfl,k.int U⟩
 .split at O
  .cases O;cases W;cases Y;exact .inr (.inl ⟨_,_,rfl,rfl,by assumption,k.str U⟩)
  .cases O
 .split at O
  .rename_i hl;cases O;have⟨a,vs,rfl,h1,h2⟩:=W;have⟨b,ws,rfl,Z,h4⟩:=Y;exact .inr (.inr (.inl ⟨a,b,vs,ws,rfl,rfl,h1,Z,by rw[h2.length,h4.length];exact hl,λp hp=>bP k U (h2.append h4) hp⟩))
  .cases O
 .split at O
  .rename_i hl;cases O;have⟨a,vs,rfl,h1,h2⟩:=W;have⟨b,ws,rfl,Z,h4⟩:=Y;have⟨hl,n1,n2⟩:=hl;refine .inr (.inr (.inr ⟨a,b,vs,ws,rfl,rfl,U.tup h1,U.tup Z,λz=>?_,by rw[h2.length,h4.length];exact hl,λz=>?_,λ_ p hp=>k.tup U (h2.append h4) hp⟩))
   .subst z;have:=h2.length;exact n1 (qv0 this.symm)
   .subst z;have:=h4.length;exact absurd (qv0 this.symm) n2
  .cases O
theorem nc{f:Int->Int->Int}:R2D K (rI0 λi j=>.int (f i j)) (qQ f):=by
 intro F H x y vx Z Q t U W Y O k;unfold qQ at O;rcases O
 cases O;cases W;cases Y;exact⟨_,_,rfl,rfl,k.int U⟩
theorem Ea:R2D K (rI0 λi j=>.int (i-j)) uc:=by
 intro F H x y vx Z Q t W U Y O k;unfold uc at O;rcases O
 cases O;cases U;cases Y;exact⟨_,_,rfl,rfl,k.int W⟩
theorem Eb:R2D K (gW CMul λi j=>.int (i*j)) hJ:=by
 intro F H x y vx Z Q t W U Y O k;unfold hJ at O;rcases O
 split at O
 .cases O;cases U;cases Y;exact⟨_,_,rfl,rfl,xp (by assumption),k.int W⟩
 .cases O
theorem Ec:R2D K (gW (λ_ j=>0<j) λi j=>.int (i%j)) eI:=by
 intro F H x y vx Z Q t U W Y O k;unfold eI at O;rcases O
 split at O
 .cases O;cases W;cases Y;exact⟨_,_,rfl,rfl,by assumption,k.int U⟩
 .cases O
theorem Ed:R2D K (gW AL λi j=>.int (i^j.toNat)) xt:=by
 intro F H x y vx Z Q t W U Y O k;unfold xt at O;rcases O
 split at O
 .cases O;cases U;cases Y;exact⟨_,_,rfl,rfl,xq (by assumption),k.int W⟩
 .cases O
theorem zE{f:Int->Int->Bool}:R2D K (rI0 λi j=>.bl (f i j)) (xu f):=by
 intro F H x y vx Z Q t U W Y O k;unfold xu at O;rcases O
 cases O;cases W;cases Y;exact⟨_,_,rfl,rfl,k.bl U⟩
def eqD:Dt->Dt->ζ Bool
 |.non,.non=>ς θ
 |.non,.int _=>ς ξ
 |.non,.bl _=>ς ξ
 |.non,.str _=>ς ξ
 |.int _,.non=>ς ξ
 |.bl _,.non=>ς ξ
 |.str _,.non=>ς ξ
 |.int i,.int j=>ς (decide (i=j))
 |.bl i,.bl j=>ς (decide (i=j))
 |.str i,.str j=>ς (decide (i=j))
 |.int _,.str _=>ς ξ
 |.str _,.int _=>ς ξ
 |.bl _,.str _=>ς ξ
 |.str _,.bl _=>ς ξ
 |.t l,.t m=>if cmpbs l m&&decide (deeps l<=59)then ς (peqs l m)else ψ
 |.e l,.e m=>if cmpbs l m&&decide (deeps l<=59)then ς (peqs l m)else ψ
 |_,_=>ψ
section
variable{i j:Int}{x y:Str}{a b:Bool}
theorem eqdi:eqD (.int i) (.int j)=ς (decide (i=j)):=rfl
theorem eqds:eqD (.str x) (.str y)=ς (decide (x=y)):=rfl
theorem eqdb:eqD (.bl a) (.bl b)=ς (decide (a=b)):=rfl
theorem eqdn:eqD .non .non=ς θ:=rfl
theorem eqdx:eqD (.int i) (.str x)=ς ξ:=rfl
theorem eqdy:eqD (.str x) (.int i)=ς ξ:=rfl
theorem eqdz:eqD (.int i) .non=ς ξ:=rfl
theorem eqdw:eqD (.str x) .non=ς ξ:=rfl
theorem eqdt{m:η Dt}:eqD (.t l) (.t m)=if cmpbs l m&&decide (deeps l<=59)then ς (peqs l m)else ψ:=rfl
theorem Bw{m:η Dt}:eqD (.e l) (.e m)=if cmpbs l m&&decide (deeps l<=59)then ς (peqs l m)else ψ:=rfl
end
def gEq(O:Bool)(x y:Dt):ζ T:=(eqD x y).map λb=>.f (.bl (if O then !b else b))
abbrev rEqA(K:xA9):R2:=λx y H Q=>rEq x y H Q\/xm K ξ x y H Q
abbrev rNeA(K:xA9):R2:=λx y H Q=>rNe x y H Q\/xm K θ x y H Q
theorem ud{k:Nat}(O:Room k X.A):OpR X (qe2 .Eq) (rEqA X.K):=OpR.or DU (Bt O rfl)
theorem ni{k:Nat}(O:Room k X.A):OpR X (qe2 .NotEq) (rNeA X.K):=OpR.or DV (Bu O rfl)
omit x in
theorem ue {F:Hp} {x y:Dt} {O:V} {b:Bool} (Y:Same F H) (U:RepB K F H x vx) (W:RepB K F H y O) (h:eqD x y=ς b) :
  (AW vx O=θ/\b=decide (vx=O))\/(((∃l m,x=.t l/\y=.t m)\/∃l m,x=.e l/\y=.e m)/\bu x y=θ/\cR x<=60/\b=peq x y):=by
 cases x<;>cases y<;>first
  |(cases h;done)
  |(cases h;cases U;cases W;left;refine⟨rfl,?_⟩;simp;done)
  |skip
 .right
  replace h:(if _ then _ else _)=ς b:=h
  split at h
  .rename_i q;rwa[qa1,decide_eq_true_eq]at q;cases h;exact⟨.inl ⟨_,_,rfl,rfl⟩,by rwa[bu];exact q.1,by rwa[cR];lia,rfl⟩
  .cases h
 .right
  replace h:(if _ then _ else _)=ς b:=h
  split at h
  .rename_i q;rwa[qa1,decide_eq_true_eq]at q;cases h;exact⟨.inr ⟨_,_,rfl,rfl⟩,by rwa[bu];exact q.1,by rwa[cR];lia,rfl⟩
  .cases h
theorem r_eq:R2D K (rEqA K) (gEq ξ):=by
 intro F H x y vx vy Q t U Y Z O k;unfold gEq at O;have⟨b,hb,O⟩:=qe1.mp O;cases O;have W:Q (.bl b) H:=k.bl U;rcases ue U Y Z hb with ⟨h1,rfl⟩|⟨h1,h2,h3,rfl⟩
 .exact .inl ⟨h1,W⟩
 .exact .inr ⟨x,y,h1,Y.rep U,Z.rep U,h2,h3,W⟩
theorem By:R2D K (rNeA K) (gEq θ):=by
 intro F H x y vx vy Q t U Y Z O k;unfold gEq at O;have⟨b,hb,O⟩:=qe1.mp O;cases O;have W:Q (.bl (!b)) H:=k.bl U;rcases ue U Y Z hb with ⟨h1,rfl⟩|⟨h1,h2,h3,rfl⟩
 .exact .inl ⟨h1,W⟩
 .exact .inr ⟨x,y,h1,Y.rep U,Z.rep U,h2,h3,W⟩
noncomputable def uf:Dt->Bool
 |.non=>θ
 |_=>ξ
def gIs(O:Bool)(x y:Dt):ζ T:=match y with
 |.non=>ς (.f (.bl (if O then !uf x else uf x)))
 |_=>ψ
theorem lI{F:Hp}{x:Dt}{v:V}(r:RepB K F H x v):uf x=decide (v=.non):=by
 cases x<;>first
  |(cases r;rfl)
  |(have⟨a,vs,rfl,_⟩:=r;rfl)
  |(rwa[RepB,Rep]at r;have⟨a,C,dx,fs,rfl,_⟩:=r;rfl)
theorem r_is:R2D K (λx y H Q=>y=.non/\Q (.bl (decide (x=.non))) H) (gIs ξ):=by
 intro F H x y vx Z Q t U W Y O k;cases y<;>first|cases O;done|skip
 cases O;cases Y;refine⟨rfl,?_⟩;rw[<- lI W];exact k.bl U
theorem xx:R2D K (λx y H Q=>y=.non/\Q (.bl (!decide (x=.non))) H) (gIs θ):=by
 intro F H x y vx Z Q t U W Y O k;cases y<;>first|cases O;done|skip
 cases O;cases Y;refine⟨rfl,?_⟩;rw[<- lI W];exact k.bl U
noncomputable def aN:Dt->Bool
 |.non=>θ
 |.bl _=>θ
 |.int _=>θ
 |.str _=>θ
 |_=>ξ
noncomputable def eqF:Dt->Dt->Bool
 |.non,.non=>θ
 |.bl a,.bl b=>a==b
 |.bl a,.int b=>(if a then 1 else 0)==b
 |.int a,.bl b=>a==(if b then 1 else 0)
 |.int a,.int b=>a==b
 |.str a,.str b=>a==b
 |_,_=>ξ
noncomputable def inS(j i:Str):Bool:=!(qs4 j i 0 j.length 1).isEmpty
def inD:Dt->Dt->ζ Bool
 |.str i,.str j=>ς (inS j i)
 |x,.e l=>if aN x&&l.all aN then ς (l.any λy=>eqF y x)else ψ
 |x,.t l=>if aN x&&l.all aN then ς (l.any λy=>eqF y x)else ψ
 |_,_=>ψ
def gIn(O:Bool)(x y:Dt):ζ T:=(inD x y).map λb=>.f (.bl (if O then !b else b))
theorem kh{F:Hp}{d:Dt}{v:V}(r:Rep K F d v)(h:aN d=θ):aX v=θ:=by
 cases d<;>rwa[Rep]at r<;>first
  |(subst r;rfl)
  |cases h
theorem Bz{F:Hp}{d e:Dt}{v w:V}(r:Rep K F d v)(O:Rep K F' e w)(h:aN d=θ)(h':aN e=θ):eqF d e=eqV v w:=by
 cases d<;>first|cases h;done|skip
 all_goals cases e<;>first|cases h';done|skip
 all_goals rwa[Rep]at r O;subst r O;rfl
theorem hU{F:Hp}:∀{l:η Dt}{vs:η V},Reps K F l vs->l.all aN=θ->vs.all aX=θ
 |[],vs,r,_=>by rwa[Reps]at r;subst r;rfl
 |d::l,vs,r,h=>by rwa[Reps]at r;have⟨v,ws,rfl,h1,h2⟩:=r;rw[qd4,qa1]at h ⊢;exact⟨kh h1 h.1,hU h2 h.2⟩
theorem nj{F:Hp}{x:Dt}{w:V}(O:Rep K F' x w)(U:aN x=θ):∀{l:η Dt}{vs:η V},Reps K F l vs->l.all aN=θ->(l.any λy=>eqF y x)=inV w vs
 |[],vs,r,_=>by rwa[Reps]at r;subst r;rfl
 |d::l,vs,r,h=>by rwa[Reps]at r;have⟨v,ws,rfl,h1,h2⟩:=r;rw[qd4,qa1]at h;unfold inV;rw[qm0,qm0,Bz h1 O h.1 U,nj O U h2 h.2];rfl
abbrev BA(K:xA9)(neg:Bool):R2:=λx y H Q=>(∃i j,x=.str i/\y=.str j/\Q (.bl (if neg then !inS j i else inS j i)) H)\/rIn K neg x y H Q
theorem BB:OpR X (qe2 .In) (BA X.K ξ):=OpR.or qt qD
theorem qR:OpR X (qe2 .NotIn) (BA X.K θ):=OpR.or jX jW
omit x in
theorem r_in(W:Bool):R2D K (BA K W) (gIn W):=by
 intro F H x y vx vy Q t Z rx ry Y k;unfold gIn at Y;have⟨b,hb,Y⟩:=qe1.mp Y;cases Y;have U:=k.bl Z;unfold inD at hb;rcases hb
 .cases hb;cases rx;cases ry;exact .inl ⟨_,_,rfl,rfl,U⟩
 .split at hb
  .rename_i q;rw[qa1]at q;cases hb;have⟨a,vs,rfl,h1,h2⟩:=ry;have O:=rx.rep Z;rw[nj O q.1 h2 q.2]at U;exact .inr ⟨a,vs,rfl,.inl h1,kh O q.1,hU h2 q.2,U⟩
  .cases hb
 .split at hb
  .rename_i q;rw[qa1]at q;cases hb;have⟨a,vs,rfl,h1,h2⟩:=ry;have O:=rx.rep Z;rw[nj O q.1 h2 q.2]at U;exact .inr ⟨a,vs,rfl,.inr (Z.tup h1),kh O q.1,hU h2 q.2,U⟩
  .cases hb
theorem lJ{F:Hp}{i:Int}{d:Dt}(r:Reps K F l vs)(h:atI l i=ς d):∃v,atI vs i=ς v/\Rep K F d v:=by unfold atI at h ⊢;rw[r.length];have⟨j,U,h⟩:=qk7.mp h;have⟨v,e,O⟩:=r.get h;exact⟨v,by rw[U];exact e,O⟩
def gIx:Dt->Dt->ζ T
 |.e l,.int i=>(atI l i).map .f
 |.t l,.int i=>(atI l i).map .f
 |.str x,.int i=>if x.length<=qa5 then(atI x.cps.toList i).map λc=>.f (.str ⟨#[c]⟩)else ψ
 |_,_=>ψ
omit x in
theorem r_ix:R2D K (rIx K) gIx:=by
 intro F H x y vx vy Q t U Z ry O k;unfold gIx at O;rcases O
 .have⟨d,Y,O⟩:=qe1.mp O;cases O;cases ry;have⟨a,vs,rfl,h1,h2⟩:=Z;have⟨v,e,W⟩:=lJ h2 Y;exact .inl ⟨a,vs,_,v,rfl,rfl,h1,e,k.leaf.here U W⟩
 .have⟨d,Y,O⟩:=qe1.mp O;cases O;cases ry;have⟨a,vs,rfl,h1,h2⟩:=Z;have⟨v,e,W⟩:=lJ h2 Y;exact .inr (.inl ⟨a,vs,_,v,rfl,rfl,U.tup h1,e,k.leaf.here U W⟩)
 .split at O
  .rename_i hl;have⟨c,hc,O⟩:=qe1.mp O;cases O;cases Z;cases ry;exact .inr (.inr ⟨_,_,c,rfl,rfl,hl,hc,k.str U⟩)
  .cases O
variable{a b c:J8}{fa fb fc:De->ζ Dt}{pos:Pos}
noncomputable def ki(l:η Dt)(lo hi:ζ Int):η Dt:=(l.drop (HT.sIx l.length 0 lo)).take (HT.sIx l.length l.length hi-HT.sIx l.length 0 lo)
def gSl:Dt->ζ Int->ζ Int->ζ T
 |.str x,lo,hi=>if x.length<=qa5 then ς (.f (.str (Txt.slice x lo hi)))else ψ
 |.e l,lo,hi=>ς (.e (ki l lo hi))
 |.t l,lo,hi=>if HT.sIx l.length 0 lo=0/\HT.sIx l.length l.length hi=l.length then ψ else ς (.f (.t (ki l lo hi)))
 |_,_,_=>ψ
abbrev rSlA(K:xA9):V->ζ Int->ζ Int->Hp->VK->Prop:=λx lo hi H Q=>rSlS x lo hi H Q\/rSlL K x lo hi H Q\/rSlT K x lo hi H Q
theorem BC:SlR X (rSlA X.K):=SlR.or Bq (SlR.or xa Bb)
theorem lK{F:Hp}(r:Reps K F l vs)(lo hi:ζ Int):Reps K F (ki l lo hi) (lz vs lo hi):=by unfold ki lz;rw[r.length];exact(r.drop _).take _
omit x in
theorem r_sl{F:Hp}{x:Dt}{v:V}{lo hi:ζ Int}{Q:VK}{t:T}(U:Same F H)(W:RepB K F H x v)(O:gSl x lo hi=ς t)(k:KO K F H t Q):rSlA K v lo hi H Q:=by
 unfold gSl at O;rcases O
 .split at O
  .cases O;cases W;exact .inl ⟨_,rfl,by assumption,k.str U⟩
  .cases O
 .have⟨a,vs,rfl,h1,h2⟩:=W;cases O;exact .inr (.inl ⟨a,vs,rfl,h1,λp hp=>bP k U (lK h2 _ _) hp⟩)
 .have⟨a,vs,rfl,h1,h2⟩:=W;split at O
  .cases O
  .rename_i Y;cases O;rw[<- h2.length]at Y;exact .inr (.inr ⟨a,vs,rfl,U.tup h1,Y,λp hp=>k.tup U (lK h2 _ _) hp⟩)
noncomputable def asI:Dt->ζ Int
 |.int i=>ς i
 |_=>ψ
noncomputable def eJ:η Dt->ζ T
 |[.str x]=>if x.length<=qa5 then ς (.f (.int x.length))else ψ
 |[.t l]=>ς (.f (.int l.length))
 |[.e l]=>ς (.f (.int l.length))
 |_=>ψ
theorem bq{F:Hp}{d:Dt}(r:lH K F H [d] vs):∃v,vs=[v]/\RepB K F H d v:=by have⟨v,ws,rfl,h1,h2⟩:=r;cases h2;exact⟨v,rfl,h1⟩
omit x in
theorem Ee:CRD K (λxs H Q=>∃x n,xs=[x]/\LenV K x H n/\Q (.int n) H) eJ:=by
 intro F H ds vs Q t W r O k;unfold eJ at O;rcases O
 .split at O
  .rename_i hl;cases O;have⟨v,rfl,U⟩:=bq r;cases U;exact⟨_,_,rfl,⟨hl,rfl⟩,k.int W⟩
  .cases O
 .cases O;have⟨v,rfl,U⟩:=bq r;have⟨a,vs,rfl,h1,h2⟩:=U;rw[<- h2.length]at k;exact⟨_,_,rfl,.inr ⟨vs,W.tup h1,rfl⟩,k.int W⟩
 .cases O;have⟨v,rfl,U⟩:=bq r;have⟨a,vs,rfl,h1,h2⟩:=U;rw[<- h2.length]at k;exact⟨_,_,rfl,.inl ⟨vs,h1,rfl⟩,k.int W⟩
noncomputable def BD:η Dt->ζ T
 |[.int i]=>ς (.f (.int i))
 |[.bl b]=>ς (.f (.int (if b then 1 else 0)))
 |[.str x]=>(PySem.intText? x).bind λn=>if x.length<=640 then ς (.f (.int n))else ψ
 |_=>ψ
abbrev zF:η V->Hp->VK->Prop:=λxs H Q=>((∃i,xs=[.int i]/\Q (.int i) H)\/∃k,xs=[.bl k]/\Q (.int (if k then 1 else 0)) H)\/∃x n,xs=[.str x]/\PySem.intText? x=ς n/\x.length<=640/\Q (.int n) H
theorem qS:CallR X (.type "int") zF:=CallR.or qu j3
theorem Ef:CRD K zF BD:=by
 intro F H ds vs Q t W r O k;unfold BD at O;rcases O
 .cases O;have⟨v,rfl,U⟩:=bq r;cases U;exact .inl (.inl ⟨_,rfl,k.int W⟩)
 .cases O;have⟨v,rfl,U⟩:=bq r;cases U;exact .inl (.inr ⟨_,rfl,k.int W⟩)
 .have⟨n,Y,O⟩:=qk7.mp O;split at O
  .cases O;have⟨v,rfl,U⟩:=bq r;cases U;exact .inr ⟨_,n,rfl,Y,by assumption,k.int W⟩
  .cases O
noncomputable def nl:η Dt->ζ T
 |[.e l]=>ς (.f (.t l))
 |[.t l]=>ς (.f (.t l))
 |_=>ψ
omit x in
theorem xy:CRD K (λxs H Q=>∃p ys,xs=[.ref p]/\((SqL K H p ys/\∀l,H l=ψ->Q (.ref l) (upd H l (.t ys)))\/(SqT K H p ys/\Q (.ref p) H))) nl:=by
 intro F H ds vs Q t W r O k;unfold nl at O;rcases O
 .cases O;have⟨v,rfl,U⟩:=bq r;have⟨a,vs,rfl,h1,h2⟩:=U;exact⟨a,vs,rfl,.inl ⟨h1,λp hp=>k.tup W h2 hp⟩⟩
 .cases O;have⟨v,rfl,U⟩:=bq r;rename_i l;have Y:Rep K F (.t l) v:=by rwa[Rep];exact U
  have⟨a,vs,rfl,h1,h2⟩:=U;exact⟨a,vs,rfl,.inr ⟨W.tup h1,k.leaf.here W Y⟩⟩
noncomputable def ug:η Dt->ζ T
 |[.e l]=>ς (.e l)
 |[.t l]=>ς (.e l)
 |_=>ψ
theorem BE:CRD K (λxs H Q=>∃p ys,xs=[.ref p]/\(SqL K H p ys\/SqT K H p ys)/\∀l,H l=ψ->Q (.ref l) (upd H l (.e ys))) ug:=by
 intro F H ds vs Q t U r O k;unfold ug at O;rcases O
 .cases O;have⟨v,rfl,W⟩:=bq r;have⟨a,vs,rfl,h1,h2⟩:=W;exact⟨a,vs,rfl,.inl h1,λp hp=>bP k U h2 hp⟩
 .cases O;have⟨v,rfl,W⟩:=bq r;have⟨a,vs,rfl,h1,h2⟩:=W;exact⟨a,vs,rfl,.inr (U.tup h1),λp hp=>bP k U h2 hp⟩
end
set_option genInjectivity true in
inductive CV where
 |g (d:Dt)|ref (i:Nat)|fn (a:J4) (F0:Hp)
 |own (b:Bool) (t:T)
set_option genInjectivity true in
inductive CO where
 |e (l:List CV)|t (l:List CV)|dK (l:List (Key×CV))|dT (l:List (List Key×CV))|ins (c:Nat) (l:List CV)
abbrev CH:=η CO
abbrev Sl:=η (ζ CV)
structure Gx where
 K:xA9
 ct:List (Str×List Str)
def ClsAt(K:xA9)(c:Str)(C:J4):Prop:=xD9 K qf2 c=ς (ς (.ref C))
section
variable(G:Gx)(F H:Hp)(ρ:Nat->J4)(n:Nat)
def RelS:CV->V->Prop
 |.g d,v=>Rep G.K F d v
 |.ref i,v=>i<n/\v=.ref (ρ i)
 |.fn a F0,v=>v=.ref a/\Same F0 F
 |.own _ _,_=>False
abbrev RelSs:η CV->η V->Prop:=Paired (RelS G F ρ n)
def RelW(t:T)(v:V):Prop:=∃a,v=.ref a/\t.own=θ/\Own G.K F H t v (· = a)/\F a=ψ/\∀i,i<n->ρ i≠a
def RelC:CV->V->Prop
 |.own _ t,v=>RelW G F H ρ n t v
 |c,v=>RelS G F ρ n c v
abbrev RelCs:η CV->η V->Prop:=Paired (RelC G F H ρ n)
def CoOk(a:J4):CO->Prop
 |.e l=>∃vs,H a=ς (.e vs)/\RelSs G F ρ n l vs
 |.t l=>∃vs,H a=ς (.t vs)/\RelSs G F ρ n l vs
 |.dK l=>(l.map (·.1)).Nodup/\∃J1,H a=ς (.dK J1)/\J1.map (·.1)=l.map (·.1)/\RelSs G F ρ n (l.map (·.2)) (J1.map (·.2))
 |.dT l=>(l.map (·.1)).Nodup/\∃J1,H a=ς (.dT J1)/\J1.map (·.1)=l.map (·.1)/\RelSs G F ρ n (l.map (·.2)) (J1.map (·.2))
 |.ins c l=>∃p C dx fs,G.ct[c]?=ς p/\ClsAt G.K p.1 C/\H a=ς (.ins C dx fs)/\fs.map (·.1)=p.2.take l.length/\RelSs G F ρ n l (fs.map (·.2))
end
section
variable{G:Gx}{F H F' H' F1 H1:Hp}{ρ ρ' ρ1:Nat->J4}{n n':Nat}{c:CV}{v:V}{l m:η CV}{vs ws:η V}
theorem Paired.get{α β:Type}{R:α->β->Prop}:∀{l:η α}{m:η β}{i:Nat}{a:α},Paired R l m->l[i]?=ς a->∃b,m[i]?=ς b/\R a b
 |_,_,_,_,.nil,e=>by simp at e
 |_,_,0,_,.cons r _,e=>by simp at e;subst e;exact⟨_,rfl,r⟩
 |_,_,i+1,a,.cons _ t,e=>by have⟨b,h1,h2⟩:=Paired.get (i:=i) (a:=a) t ‹e›;exact⟨b,‹h1›,h2⟩
theorem Paired.set{α β:Type}{R:α->β->Prop}{a:α}{b:β}(r:R a b):∀{l:η α}{m:η β}(i:Nat),Paired R l m->Paired R (l.set i a) (m.set i b)
 |_,_,_,.nil=>.nil
 |_,_,0,.cons _ t=>.cons r t
 |_,_,i+1,.cons q t=>.cons q (Paired.set r i t)
theorem Paired.app{α β:Type}{R:α->β->Prop}:∀{l O:η α}{m U:η β},Paired R l m->Paired R O U->Paired R (l++O) (m++U)
 |_,_,_,_,.nil,s=>s
 |_,_,_,_,.cons r t,s=>.cons r (Paired.app t s)
theorem RelS.mono(O:Same F F')(he:∀i,i<n->ρ' i=ρ i)(U:n<=n')(h:RelS G F ρ n c v):RelS G F' ρ' n' c v:=by
 cases c with
 |g d=>exact Rep.same O h
 |ref i=>exact⟨qc9 h.1 U,by rw[he i h.1];exact h.2⟩
 |fn a F0=>exact⟨h.1,h.2.trans O⟩
 |own b t=>exact h.elim
theorem RelSs.mono(U:Same F F')(he:∀i,i<n->ρ' i=ρ i)(O:n<=n')(h:RelSs G F ρ n l vs):RelSs G F' ρ' n' l vs:=Paired.mapP h λ_ _ r=>r.mono U he O
theorem RelS.toC(h:RelS G F ρ n c v):RelC G F H ρ n c v:=by cases c<;>first|exact h|exact h.elim
noncomputable def CV.sol:CV->Bool
 |.own _ _=>ξ
 |_=>θ
theorem RelC.s(hs:c.sol=θ)(h:RelC G F H ρ n c v):RelS G F ρ n c v:=by cases c<;>first|exact h|cases hs
theorem RelCs.s:∀{l:η CV}{vs:η V},l.all CV.sol=θ->RelCs G F H ρ n l vs->RelSs G F ρ n l vs
 |_,_,_,.nil=>.nil
 |_,_,h,.cons r t=>by rwa[qd4,qa1]at h;exact .cons (r.s h.1) (RelCs.s h.2 t)
theorem RelSs.length(h:RelSs G F ρ n l vs):vs.length=l.length:=(Paired.length h).symm
theorem RelSs.dats:∀{l:η Dt}{vs:η V},Reps G.K F l vs->RelSs G F ρ n (l.map .g) vs
 |[],vs,h=>by rwa[Reps]at h;subst h;exact .nil
 |d::l,vs,h=>by rwa[Reps]at h;have⟨v,ws,rfl,h1,h2⟩:=h;exact .cons h1 (RelSs.dats h2)
noncomputable def dats:η CV->ζ (η Dt)
 |[]=>ς []
 |.g d::l=>(dats l).map (d::·)
 |_=>ψ
theorem bC:∀l:η Dt,dats (l.map .g)=ς l
 |[]=>rfl
 |d::l=>by simp[dats,bC l]
theorem cq:∀{l:η CV}{ds:η Dt},dats l=ς ds->l=ds.map .g
 |[],ds,h=>by cases h;rfl
 |.g d::l,ds,h=>by rwa[dats,qe1]at h;have⟨es,h1,rfl⟩:=h;rw[cq h1];rfl
 |.ref _::_,_,h=>by simp[dats]at h
 |.fn _ _::_,_,h=>by simp[dats]at h
 |.own _ _::_,_,h=>by simp[dats]at h
theorem oP:∀{ds:η Dt}{vs:η V},RelSs G F ρ n (ds.map .g) vs->Reps G.K F ds vs
 |[],_,.nil=>by rwa[Reps]
 |d::ds,_,.cons r t=>by rwa[Reps];exact⟨_,_,rfl,r,oP t⟩
theorem aW(h:dats l=ς ds)(r:RelSs G F ρ n l vs):Reps G.K F ds vs:=by rw[cq h]at r;exact oP r
theorem CoOk.mono{o:CO}(Y:Same F F')(he:∀i,i<n->ρ' i=ρ i)(U:n<=n')(O:∀u,H a=ς u->H' a=ς u)(h:CoOk G F H ρ n a o):CoOk G F' H' ρ' n' a o:=by
 cases o with
 |e l=>have⟨vs,h1,h2⟩:=h;exact⟨vs,O _ h1,h2.mono Y he U⟩
 |t l=>have⟨vs,h1,h2⟩:=h;exact⟨vs,O _ h1,h2.mono Y he U⟩
 |dK l=>have⟨Z,vs,h1,h2,W⟩:=h;exact⟨Z,vs,O _ h1,h2,W.mono Y he U⟩
 |dT l=>have⟨Z,vs,h1,h2,W⟩:=h;exact⟨Z,vs,O _ h1,h2,W.mono Y he U⟩
 |ins c l=>have⟨p,C,dx,fs,hp,h0,h1,h2,W⟩:=h;exact⟨p,C,dx,fs,hp,h0,O _ h1,h2,W.mono Y he U⟩
theorem CoOk.there{o:CO}(h:CoOk G F H ρ n a o):∃u,H a=ς u:=by
 cases o with
 |e l=>have⟨vs,h1,h2⟩:=h;exact⟨_,h1⟩
 |t l=>have⟨vs,h1,h2⟩:=h;exact⟨_,h1⟩
 |dK l=>have⟨O,vs,h1,h2⟩:=h;exact⟨_,h1⟩
 |dT l=>have⟨O,vs,h1,h2⟩:=h;exact⟨_,h1⟩
 |ins c l=>have⟨p,C,dx,fs,hp,U,h1,h2⟩:=h;exact⟨_,h1⟩
end
def CO.live:CO->Prop
 |.t _=>False
 |_=>True
structure Gh(G:Gx)(F H:Hp)(ρ:Nat->J4)(ch:CH):Prop where
 fh:Same F H
 inj:∀i j,i<ch.length->j<ch.length->ρ i=ρ j->i=j
 out:∀i o,ch[i]?=ς o->o.live->F (ρ i)=ψ
 ok:∀i o,ch[i]?=ς o->CoOk G F H ρ ch.length (ρ i) o
structure Adv(G:Gx)(F H:Hp)(ρ:Nat->J4)(ch:CH)(F' H':Hp)(ρ':Nat->J4)(ch':CH):Prop where
 gh:Gh G F' H' ρ' ch'
 len:ch.length<=ch'.length
 ext:∀i,i<ch.length->ρ' i=ρ i
 fr:∀i,ch.length<=i->i<ch'.length->H (ρ' i)=ψ
 prot:∀b o,H b=ς o->(∀i,i<ch.length->ρ i≠b)->H' b=ς o
 old:Same F F'
 nw:∀b o,F' b=ς o->F b=ς o\/H b=ψ\/∃vs,o=.t vs
 hs:∀b,H' b=ψ->H b=ψ
variable{u:HO}
section
variable{G:Gx}{F H F' H' F1 H1:Hp}{ρ ρ' ρ1:Nat->J4}{ch ch' ch1:CH}{c:CV}{v:V}
theorem Gh.at(g:Gh G F H ρ ch){i:Nat}(hi:i<ch.length):∃u,H (ρ i)=ς u:=(g.ok i ch[i] (by simp[hi])).there
theorem Adv.refl(g:Gh G F H ρ ch):Adv G F H ρ ch F H ρ ch:=⟨g,nL _,λ_ _=>rfl,λi h1 h2=>absurd h2 (qo2.mpr h1),λ_ _ h _=>h,Same.refl _,λ_ _ h=>.inl h,λ_ h=>h⟩
theorem Adv.trans(a:Adv G F H ρ ch F1 H1 ρ1 ch1)(b:Adv G F1 H1 ρ1 ch1 F' H' ρ' ch'):Adv G F H ρ ch F' H' ρ' ch' where
 gh:=b.gh
 len:=qd7 a.len b.len
 ext:=λi hi=>(b.ext i (qc9 hi a.len)).trans (a.ext i hi)
 fr:=λi h1 h2=>by
  by_cases hi:i<ch1.length
  .rw[b.ext i hi];exact a.fr i h1 hi
  .exact a.hs _ (b.fr i (qo2.mp hi) h2)
 prot:=λx o h1 h2=>b.prot x o (a.prot x o h1 h2) λi hi e=>by
  by_cases O:i<ch.length
  .rw[a.ext i O]at e;exact h2 i O e
  .have:=a.fr i (qo2.mp O) hi;rw[e,h1]at this;cases this
 old:=a.old.trans b.old
 nw:=λx o h=>(b.nw x o h).elim (a.nw x o) λz=>.inr (z.imp_left (a.hs x))
 hs:=λx h=>a.hs x (b.hs x h)
theorem jp(h:Same H H')(b:J4)(e:H' b=ψ):H b=ψ:=h.free e
theorem Gh.of(g:Gh G F H ρ ch)(st:Step F H F' H'):Gh G F' H' ρ ch:=by
 refine⟨st.fh,g.inj,λi o hi hl=>?_,λi o h=>(g.ok i o h).mono st.ff (λ_ _=>rfl) (nL _) λu U=>st.hh _ _ U⟩;cases q:F' (ρ i)with
 |none=>rfl
 |some u=>
  have O:=g.ok i o hi;rcases st.nw _ _ q with z|z|⟨vs,z⟩
  .rw[g.out i o hi hl]at z;cases z
  .have⟨u,U⟩:=O.there;rw[U]at z;cases z
  .cases o with
   |e l=>have⟨vs,h1,_⟩:=O;rw[h1]at z;cases z
   |t l=>exact hl.elim
   |dK l=>have⟨W,vs,h1,_⟩:=O;rw[h1]at z;cases z
   |dT l=>have⟨W,vs,h1,_⟩:=O;rw[h1]at z;cases z
   |ins c l=>have⟨p,C,dx,fs,hp,Y,h1,_⟩:=O;rw[h1]at z;cases z
theorem oQ(st:Step F H F' H')(b:J4)(o:HO)(h:F' b=ς o):F b=ς o\/H b=ψ\/∃vs,o=.t vs:=(st.nw b o h).imp_right λz=>z.imp_right λO=>by have⟨vs,z⟩:=O;exact⟨vs,qd3 ((st.fh b o h).symm.trans (st.hh b _ z))⟩
theorem Adv.of(g:Gh G F H ρ ch)(st:Step F H F' H'):Adv G F H ρ ch F' H' ρ ch:=⟨g.of st,nL _,λ_ _=>rfl,λi h1 h2=>absurd h2 (qo2.mpr h1),λb o h _=>st.hh b o h,st.ff,oQ st,jp st.hh⟩
theorem ai{α:Type}{l:η α}{i:Nat}{x:α}(h:l[i]?=ς x):i<l.length:=(gX h).1
theorem Adv.put(g:Gh G F H ρ ch){i:Nat}{o w:CO}(U:ch[i]?=ς w)(hl:w.live)(ho:CoOk G F (upd H (ρ i) u) ρ ch.length (ρ i) o):Adv G F H ρ ch F (upd H (ρ i) u) ρ (ch.set i o) where
 gh:=⟨λb x e=>by
     rw[af λq=>by rw[q,g.out i w U hl]at e;cases e];exact g.fh b x e,λj k Z Y=>g.inj j k ‹Z› ‹Y›,λj x O W=>by
     by_cases q:i=j
     .subst q;exact g.out i w U hl
     .rw[gN q]at O;exact g.out j x O W,λj x O=>by
     rw[List.length_set];by_cases q:i=j
     .subst q;rw[qe0 (ai U)]at O;cases O;exact ho
     .rw[gN q]at O;refine(g.ok j x O).mono (Same.refl _) (λ_ _=>rfl) (nL _) λy hy=>?_
      rw[af λe=>q (g.inj j i (ai O) (ai U) e).symm];exact hy⟩
 len:=by simp
 ext:=λ_ _=>rfl
 fr:=λj h1 h2=>absurd h2 ‹h1›
 prot:=λb x h1 h2=>by rw[af λe=>h2 i (ai U) e.symm];exact h1
 old:=Same.refl _
 nw:=λ_ _ h=>.inl h
 hs:=λb h=>by
  by_cases e:b=ρ i
  .subst e;rw[ac]at h;cases h
  .rw[af e]at h;assumption
theorem Adv.new (g:Gh G F H ρ ch) (st:Step F H F' H') {o:CO} (Z:H a=ψ) (hf:F' a=ψ) (ho:CoOk G F' H' (λi=>if i=ch.length then a else ρ i) (ch.length+1) a o) :
  Adv G F H ρ ch F' H' (λi=>if i=ch.length then a else ρ i) (ch++[o]):=by
 have g':=(Adv.of g st).gh;have lt:∀{i:Nat},i<ch.length->(if i=ch.length then a else ρ i)=ρ i:=λ{i} hi=>if_neg (qc5 hi)
 have ne:∀{i:Nat},i<ch.length->ρ i≠a:=λ{i} hi e=>by have⟨u,W⟩:=g.at hi;rw[e,Z]at W;cases W
 have U:∀i x,(ch++[o])[i]?=ς x->(i<ch.length/\ch[i]?=ς x)\/(i=ch.length/\x=o):=λi x O=>by
  by_cases h1:i<ch.length
  .rw[gL h1]at O;exact .inl ⟨h1,O⟩
  .rw[gR (qo2.mp h1)]at O;have h2:i=ch.length:=by have:=ai O;simp at this;lia
   subst h2;simp at O;exact .inr ⟨rfl,O.symm⟩
 refine⟨⟨st.fh,λi j hi Y e=>?_,λi x O hl=>?_,λi x O=>?_⟩,Ξ,λi hi=>lt hi,λi h1 h2=>?_,λb x h1 _=>st.hh b x h1,st.ff,oQ st,jp st.hh⟩
 .rwa[qc4,qb8,qf6]at hi Y;by_cases h1:i=ch.length<;>by_cases h2:j=ch.length
  .rw[h1,h2]
  .rw[if_pos h1,if_neg h2]at e;exact absurd e.symm (ne Θ)
  .rw[if_neg h1,if_pos h2]at e;exact absurd e (ne Θ)
  .rw[if_neg h1,if_neg h2]at e;exact g.inj i j Θ Θ e
 .rcases U i x O with ⟨h1,h2⟩|⟨h1,h2⟩
  .rw[lt h1];exact g'.out i x h2 hl
  .rw[if_pos h1];exact hf
 .rwa[qc4,qb8,qf6];rcases U i x O with ⟨h1,h2⟩|⟨h1,h2⟩
  .rw[lt h1];exact(g'.ok i x h2).mono (Same.refl _) (λj Y=>lt Y) (qn7 _) λu W=>W
  .subst h1;subst h2;rw[if_pos rfl];exact ho
 .rwa[qc4,qb8,qf6]at h2;have h3:i=ch.length:=by lia
  rw[if_pos h3];exact Z
theorem RelW.adv{t:T}(a:Adv G F H ρ ch F' H' ρ' ch')(h:RelW G F H ρ ch.length t v):RelW G F' H' ρ' ch'.length t v:=by
 have⟨x,rfl,Y,O,hF,hp⟩:=h;have W:∀o,H x=ς o->H' x=ς o:=λo e=>a.prot x o e hp
 have Z:∃o,H x=ς o/\NT o:=by
  cases t<;>try(cases Y;done)
  .have⟨b,vs,e,rfl,h1,_⟩:=O;exact⟨_,h1,by intro _ z;cases z⟩
  .have⟨b,vs,e,rfl,h1,_⟩:=O;exact⟨_,h1,by intro _ z;cases z⟩
  .have⟨b,vs,e,rfl,h1,_⟩:=O;exact⟨_,h1,by intro _ z;cases z⟩
 have⟨o,h1,nt⟩:=Z;refine⟨x,rfl,Y,Own.step a.old (λb o e h=>by cases e;exact W o h) O,?_,λi hi e=>?_⟩
 .cases q:F' x with
  |none=>rfl
  |some w=>
   rcases a.nw x w q with z|z|⟨vs,z⟩
   .rw[hF]at z;cases z
   .rw[h1]at z;cases z
   .have y:=a.gh.fh x w q;rw[W o h1]at y;cases y
    exact absurd z (nt vs)
 .by_cases U:i<ch.length
  .rw[a.ext i U]at e;exact hp i U e
  .have:=a.fr i (qo2.mp U) hi;rw[e,h1]at this;cases this
theorem RelS.adv(a:Adv G F H ρ ch F' H' ρ' ch')(h:RelS G F ρ ch.length c v):RelS G F' ρ' ch'.length c v:=h.mono a.old (λi hi=>a.ext i hi) a.len
theorem RelC.adv(a:Adv G F H ρ ch F' H' ρ' ch')(h:RelC G F H ρ ch.length c v):RelC G F' H' ρ' ch'.length c v:=by
 cases c with
 |own b t=>exact RelW.adv a h
 |g d=>exact RelS.adv (c:=.g d) a h
 |ref i=>exact RelS.adv (c:=.ref i) a h
 |fn x F0=>exact RelS.adv (c:=.fn x F0) a h
theorem RelCs.adv{l:η CV}(a:Adv G F H ρ ch F' H' ρ' ch')(h:RelCs G F H ρ ch.length l vs):RelCs G F' H' ρ' ch'.length l vs:=Paired.mapP h λ_ _ r=>r.adv a
end
structure Fr0 where
 F:Hp
 H:Hp
 ρ:Nat->J4
 ch:CH
structure Ge(G:Gx)(Φ:Fr0)(δ:Sl)(ch:CH)(σ:St)(F H:Hp)(ρ:Nat->J4):Prop where
 ad:Adv G Φ.F Φ.H Φ.ρ Φ.ch F H ρ ch
 len:δ.length=σ.length
 has:∀(i:Nat)(c:CV),δ[i]?=ς (ς c)->∃v,σ[i]?=ς (ς v)/\RelC G F H ρ ch.length c v
 nw:∀(i:Nat)(t:T)(a:J4),δ[i]?=ς (ς (.own θ t))->σ[i]?=ς (ς (.ref a))->Φ.H a=ψ
 dis:∀(i j:Nat)(t u:T)(b:Bool)(a:J4),i≠j->δ[i]?=ς (ς (.own θ t))->δ[j]?=ς (ς (.own b u))->σ[i]?=ς (ς (.ref a))->σ[j]?=ς (ς (.ref a))->False
variable{G:Gx}{Φ:Fr0}{δ:Sl}{ch:CH}{ρ:Nat->J4}
theorem Ge.gh{F:Hp}(e:Ge G Φ δ ch σ F H ρ):Gh G F H ρ ch:=e.ad.gh
abbrev RL(α β:Type):=Gx->Hp->Hp->Hp->(Nat->J4)->Nat->α->β->Prop
def zG(H:Hp)(c:CV)(v:V):Prop:=∀t,c=.own θ t->∀a,v=.ref a->H a=ψ
def RV:RL CV V:=λG O F H ρ n c v=>RelC G F H ρ n c v/\zG O c v
def RB:RL Bool Bool:=λ_ _ _ _ _ _ a b=>a=b
def RA:RL (η CV) (η V):=λG _ F H ρ n c v=>RelCs G F H ρ n c v
abbrev FM(α:Type):=Sl->CH->ζ (α×CH)
abbrev Fg:=FM CV
def KM(G:Gx){α β:Type}(R:RL α β)(F H:Hp)(ρ:Nat->J4)(ch:CH)(a:α)(ch':CH)(Q:β->Hp->Prop):Prop:=∀b F' H' ρ',Adv G F H ρ ch F' H' ρ' ch'->R G H F' H' ρ' ch'.length a b->Q b H'
def tK(G:Gx){α β:Type}(R:RL α β)(f:η CV->FM α)(σ:St)(vs:η V)(H:Hp)(Q:β->Hp->Prop):Prop:=∃ Φ δ ch F ρ cs a ch',Ge G Φ δ ch σ F H ρ/\RelCs G F H ρ ch.length cs vs/\f cs δ ch=ς (a,ch')/\KM G R F H ρ ch a ch' Q
def tM(G:Gx){α β:Type}(R:RL α β)(f:FM α):St->Hp->(β->Hp->Prop)->Prop:=λσ H Q=>∃ Φ δ ch F ρ a ch',Ge G Φ δ ch σ F H ρ/\f δ ch=ς (a,ch')/\KM G R F H ρ ch a ch' Q
def GE(G:Gx)(X:Cx)(e:J8)(f:Fg):Prop:=PE X e (tM G RV f)
def GT(G:Gx)(X:Cx)(e:J8)(f:FM Bool):Prop:=PT X e (tM G RB f)
def GW(G:Gx)(X:Cx)(e:J8)(f:FM Bool):Prop:=PW X e (tM G RB f)
def GA(G:Gx)(X:Cx)(es:η J8)(f:FM (η CV)):Prop:=PA X es (tM G RA f)
class RMono{α β:Type}(R:RL α β):Prop where
 m:∀{G H0 H1 F H ρ n a b},(∀x,H1 x=ψ->H0 x=ψ)->R G H1 F H ρ n a b->R G H0 F H ρ n a b
instance:RMono RV:=⟨λh r=>⟨r.1,λt e a q=>h a (r.2 t e a q)⟩⟩
instance:RMono RB:=⟨λ_ r=>r⟩
instance:RMono RA:=⟨λ_ r=>r⟩
section
variable{G:Gx}{Φ:Fr0}{F H F' H' F1 H1:Hp}{ρ ρ' ρ1:Nat->J4}{δ:Sl}{σ:St}{ch ch' ch1 ch2:CH}{c:CV}{v:V}{Q:VK}
theorem Ge.adv(e:Ge G Φ δ ch σ F H ρ)(a:Adv G F H ρ ch F' H' ρ' ch'):Ge G Φ δ ch' σ F' H' ρ':=⟨e.ad.trans a,e.len,λi c h=>let ⟨v,h1,h2⟩:=e.has i c h;⟨v,h1,h2.adv a⟩,e.nw,e.dis⟩
theorem KM.adv{α β:Type}{R:RL α β}[RMono R]{a:α}{Q:β->Hp->Prop}(k:KM G R F H ρ ch a ch' Q)(d:Adv G F H ρ ch F1 H1 ρ1 ch1):KM G R F1 H1 ρ1 ch1 a ch' Q:=λb F' H' ρ' d' r=>k b F' H' ρ' (d.trans d') (RMono.m d.hs r)
theorem KM.sol(k:KM G RV F H ρ ch c ch' Q)(a:Adv G F H ρ ch F' H' ρ' ch')(r:RelS G F' ρ' ch'.length c v):Q v H':=k v F' H' ρ' a ⟨r.toC,λt e=>by rw[e]at r;exact r.elim⟩
theorem KM.dat{d:Dt}(k:KM G RV F H ρ ch (.g d) ch Q)(g:Gh G F H ρ ch)(r:Rep G.K F d v):Q v H:=k.sol (.refl g) r
theorem bS{α β:Type}{x:ζ α}{f:α->ζ β}{b:β}(h:x.bind f=ς b):∃a,x=ς a/\f a=ς b:=qk7.mp h
theorem mS{α β:Type}{x:ζ α}{f:α->β}{b:β}(h:x.map f=ς b):∃a,x=ς a/\f a=b:=qe1.mp h
section
variable{α β:Type}{R:RL α β}[RMono R]{f fa fb fc:Fg}{fs:FM (η CV)}{ft:FM Bool}{k:η CV->FM α}{Q Q':β->Hp->Prop}
theorem tM.imp{f:FM α}(h:tM G R f σ H Q)(i:∀b H',Q b H'->Q' b H'):tM G R f σ H Q':=let ⟨Φ,δ,ch,F,ρ,a,ch',en,hf,k⟩:=h;⟨Φ,δ,ch,F,ρ,a,ch',en,hf,λb F' H' ρ' d r=>i b H' (k b F' H' ρ' d r)⟩
theorem tK.one(h:tM G R (λδ ch=>(fa δ ch).bind λp=>k [p.1] δ p.2) σ H Q):tM G RV fa σ H λx H1=>tK G R k σ [x] H1 Q:=by have⟨Φ,δ,ch,F,ρ,a,ch',en,O,W⟩:=h;have⟨p,h1,O⟩:=bS O;exact⟨Φ,δ,ch,F,ρ,p.1,p.2,en,h1,λx F1 H1 ρ1 d1 U=>⟨Φ,δ,p.2,F1,ρ1,[p.1],a,ch',en.adv d1,.cons U.1 .nil,O,W.adv d1⟩⟩
theorem tK.two(h:tM G R (λδ ch=>(fa δ ch).bind λp=>(fb δ p.2).bind λq=>k [p.1,q.1] δ q.2) σ H Q):tM G RV fa σ H λx H1=>tM G RV fb σ H1 λy H2=>tK G R k σ [x,y] H2 Q:=by have⟨Φ,δ,ch,F,ρ,a,ch',en,O,U⟩:=h;have⟨p,h1,O⟩:=bS O;have⟨q,h2,O⟩:=bS O;exact⟨Φ,δ,ch,F,ρ,p.1,p.2,en,h1,λx F1 H1 ρ1 d1 W=>⟨Φ,δ,p.2,F1,ρ1,q.1,q.2,en.adv d1,h2,λy F2 H2 ρ2 d2 Y=>⟨Φ,δ,q.2,F2,ρ2,[p.1,q.1],a,ch',(en.adv d1).adv d2,.cons (W.1.adv d2) (.cons Y.1 .nil),O,(U.adv d1).adv d2⟩⟩⟩
theorem tK.args(h:tM G R (λδ ch=>(fs δ ch).bind λp=>k p.1 δ p.2) σ H Q):tM G RA fs σ H λus H1=>tK G R k σ us H1 Q:=by have⟨Φ,δ,ch,F,ρ,a,ch',en,O,W⟩:=h;have⟨p,h1,O⟩:=bS O;exact⟨Φ,δ,ch,F,ρ,p.1,p.2,en,h1,λx F1 H1 ρ1 d1 U=>⟨Φ,δ,p.2,F1,ρ1,p.1,a,ch',en.adv d1,U,O,W.adv d1⟩⟩
theorem tK.test{k:Bool->FM α}(h:tM G R (λδ ch=>(ft δ ch).bind λp=>k p.1 δ p.2) σ H Q):tM G RB ft σ H λb H1=>tM G R (k b) σ H1 Q:=by have⟨Φ,δ,ch,F,ρ,a,ch',en,O,W⟩:=h;have⟨p,h1,O⟩:=bS O;exact⟨Φ,δ,ch,F,ρ,p.1,p.2,en,h1,λx F1 H1 ρ1 d1 U=>by cases U;exact⟨Φ,δ,p.2,F1,ρ1,a,ch',en.adv d1,O,W.adv d1⟩⟩
end
end
variable{J0:η (J4×Obj)}{A:qk4}{Q:Value->qa7->Prop}
section
variable{X:Cx}{o a b e c:J8}{es:η J8}{fa fb fo fe:De->ζ Dt}{fs:De->ζ (η Dt)}{pos apos cpos p:Pos}{x:Str}{sc:J9}{i:Nat}
def zH(K:xA9)(mg:Str->ζ Value)(x:Str)(d:Dt):Prop:=∃v,(∃u,mg x=ς u/\RelV v u)/\∀F,Rep K F d v
noncomputable def uh:Dt->Bool
 |_=>ξ
noncomputable def tyD:Dt->String
 |.non=>"NoneType"
 |.bl _=>"bool"
 |.int _=>"int"
 |.str _=>"str"
 |.t _=>"tuple"
 |.e _=>"list"
 |.dct _ _=>"dict"
 |.dcT _ _=>"dict"
noncomputable def cS(c:String):Dt->Bool
 |.non=>c=="NoneType"
 |.bl _=>c=="bool"||c=="int"
 |.int _=>c=="int"
 |.str _=>c=="str"
 |.t _=>c=="tuple"
 |.e _=>c=="list"
 |.dct _ _=>c=="dict"
 |.dcT _ _=>c=="dict"
theorem nn {s:qa7} {E:Value->qa7->Prop} {c:Value} {b:Bool} {v:V} {u:Value} {d:Dt} (I:Inv X J0 σ H s) (O:RelV v u) (r:Rep X.K H d v) (hi:uh d=ξ) (e:xI9 X.K (.type (tyD d)) c=ς b) (h:∀ Y,Q (.bool b) {s with toks:=Y}) :
  wpAny (model X.prog X.w) A (call (.builtin "isinstance") [u,c]) Q E s:=by
 cases d with
 |non=>rwa[Rep]at r;subst r;exact dv I O .non e h
 |bl y=>rwa[Rep]at r;subst r;exact dv I O (.bl y) e h
 |int y=>rwa[Rep]at r;subst r;exact dv I O (.int y) e h
 |str y=>rwa[Rep]at r;subst r;exact dv I O (.str y) e h
 |t l=>rwa[Rep]at r;have⟨a,vs,rfl,h1,h2⟩:=r;cases O;have⟨J3,_,pl,_⟩:=I.tuple h1;have⟨o,U,e2,_⟩:=pl;exact xC9 PySem.W.kitx_tuple I.kIn ⟨o,U,e2⟩ e (λz=>nomatch z) h
 |e l=>rwa[Rep]at r;have⟨a,vs,rfl,h1,h2⟩:=r;cases O;have⟨J3,_,pl,_⟩:=I.list h1;have⟨o,n,U,e2,_⟩:=pl;exact xC9 xU9 I.kIn ⟨o,U,e2⟩ e (λz=>nomatch z) h
 |dct ks l=>rwa[Rep]at r;have⟨a,J1,rfl,h1,_⟩:=r;cases O;have⟨_,_,vs,_,p⟩:=gi I.hok h1;have⟨o,es,ep,U,e2,_⟩:=p;exact xC9 xM9 I.kIn ⟨o,U,e2.1⟩ e (λz=>nomatch z) h
 |dcT ks l=>rwa[Rep]at r;have⟨a,J1,rfl,h1,_⟩:=r;cases O;have⟨_,_,xs,_,o,es,ep,U,e2,_⟩:=(show ObjOk X.prog X.w H s.heap a (.dT J1)from h1.ok I.hok);exact xC9 xM9 I.kIn ⟨o,U,e2.1⟩ e (λz=>nomatch z) h
def kj(K:xA9)(c:String):Prop:=∀d:Dt,uh d=ξ->xI9 K (.type (tyD d)) (.type c)=ς (cS c d)
theorem np:CallR X (.builtin "isinstance") (λxs H Q=>∃v c d b,xs=[v,.ty c]/\Rep X.K H d v/\uh d=ξ/\xI9 X.K (.type (tyD d)) (.type c)=ς b/\Q (.bl b) H):=by intro J0 s σ H xs us Q I r h;have⟨v,c,d,b,rfl,rd,hi,e,q⟩:=h;have⟨u,Z,rfl,U,O⟩:=zt r;cases O;exact nn I U rd hi e λY=>⟨.bl b,H,I.tok _,rfl,q⟩
def MRD(K:xA9)(r:V->η V->Hp->VK->Prop)(g:Dt->η Dt->ζ T):Prop:=∀F H d v ds vs (Q:VK) t,Same F H->RepB K F H d v->lH K F H ds vs->g d ds=ς t->KO K F H t Q->r v vs H Q
noncomputable def cT:η Dt->ζ (η Str)
 |[]=>ς []
 |.str b::r=>(cT r).map (b::·)
 |_=>ψ
theorem fN{F:Hp}:∀{l:η Dt}{vs:η V}{bs:η Str},Reps K F l vs->cT l=ς bs->vs=bs.map V.str
 |[],vs,bs,r,h=>by cases h;rwa[Reps]at r;exact r
 |d::l,vs,bs,r,h=>by
  cases d<;>first|cases h;done|skip
  rwa[cT]at h;have⟨cs,hc,h⟩:=qe1.mp h;cases h;rwa[Reps,Rep]at r;have⟨v,ws,rfl,rfl,O⟩:=r;rw[fN O hc];rfl
def kl:Dt->η Dt->ζ T
 |.str a,[.e l]=>(cT l).bind λts=>if JoinOk a ts then ς (.f (.str (zg1 a ts)))else ψ
 |_,_=>ψ
omit x in
theorem xz:MRD K (λx vs H Q=>∃(a:Str)(l:J4)(ts:η Str),x=.str a/\vs=[.ref l]/\SqL K H l (ts.map V.str)/\JoinOk a ts=θ/\Q (.str (zg1 a ts)) H) kl:=by
 intro F H d v ds vs Q t W rd U O k;unfold kl at O;split at O<;>first|cases O;done|skip
 have⟨ts,ht,O⟩:=qk7.mp O;split at O
 .rename_i Z;cases O;cases rd;have⟨v,rfl,Y⟩:=bq U;have⟨a,vs,rfl,h1,h2⟩:=Y;have:=fN h2 ht;subst this;exact⟨_,a,ts,rfl,rfl,h1,Z,k.str W⟩
 .cases O
end
noncomputable def am{κ:Type}[DecidableEq κ]:η κ->η Dt->κ->ζ Dt
 |k'::ks,d::l,k=>if k'=k then ς d else am ks l k
 |_,_,_=>ψ
theorem fQ{κ:Type}[DecidableEq κ]{F:Hp}{k:κ}:∀{J1:η (κ×V)}{l:η Dt}{d:Dt},Reps K F l (J1.map (·.2))->am (J1.map (·.1)) l k=ς d->∃v,bp J1 k=ς v/\Rep K F d v
 |[],l,d,r,h=>by cases l<;>cases h
 |p::J1,[],d,r,h=>by cases h
 |p::J1,e::l,d,r,h=>by
  rwa[qa3,Reps]at r;have⟨v,ws,U,W,Y⟩:=r;cases U;rwa[qa3,am]at h;by_cases O:p.1=k
  .rw[if_pos O]at h;cases h;exact⟨p.2,el O,W⟩
  .rw[if_neg O]at h;rw[cM O];exact fQ Y h
theorem fR{κ:Type}[DecidableEq κ]{F:Hp}{k:κ}:∀{J1:η (κ×V)}{l:η Dt},Reps K F l (J1.map (·.2))->am (J1.map (·.1)) l k=ψ->bp J1 k=ψ
 |[],l,r,h=>rfl
 |p::J1,[],r,h=>by rwa[qa3,Reps]at r;cases r
 |p::J1,e::l,r,h=>by
  rwa[qa3,Reps]at r;have⟨v,ws,U,Y,W⟩:=r;cases U;rwa[qa3,am]at h;by_cases O:p.1=k
  .rw[if_pos O]at h;cases h
  .rw[if_neg O]at h;rw[cM O];exact fR W h
noncomputable def cJ:Dt->ζ Key
 |.int i=>ς (.inl i)
 |.str x=>ς (.inr x)
 |_=>ψ
theorem cr{F:Hp}{d:Dt}{v:V}{k:Key}(r:RepB K F H d v)(h:cJ d=ς k):v=kV k:=by
 unfold cJ at h;rcases h
 .cases h;exact r
 .cases h;exact r
def gIxA:Dt->Dt->ζ T
 |.dct ks l,k=>(cJ k).bind λk=>(am ks l k).map .f
 |x,y=>gIx x y
section
variable{X:Cx}{o a b e c:J8}{es:η J8}{fa fb fo fe fk:De->ζ Dt}{fs:De->ζ (η Dt)}{pos apos cpos p:Pos}{x:Str}{sc:J9}{i:Nat}
noncomputable def aG{κ:Type}[DecidableEq κ]:η (κ×Dt)->κ->Dt->η (κ×Dt)
 |[],k,d=>[(k,d)]
 |p::l,k,d=>if p.1=k then(p.1,d)::l else p::aG l k d
theorem oR {κ:Type} [DecidableEq κ] (k:κ) (v:V):∀ (J1:η (κ×V)) (l:η (κ×Dt)) (d:Dt),(J1.map (·.1)).Nodup->J1.map (·.1)=l.map (·.1)->(aq J1 k v).map (·.1)=(aG l k d).map (·.1)∧
  ∀(K:xA9)(F:Hp),Rep K F d v->Reps K F (l.map (·.2)) (J1.map (·.2))->Reps K F ((aG l k d).map (·.2)) ((aq J1 k v).map (·.2)):=by
 have key:∀(J1:η (κ×V)),(J1.map (·.1)).Nodup->aq J1 k v=match J1 with|[]=>[(k,v)]|p::r=>if p.1=k then(p.1,v)::r else p::aq r k v:=λJ1 O=>by
  cases J1 with
  |nil=>rfl
  |cons p r=>
   dsimp only;by_cases hp:p.1=k
   .rw[if_pos hp];unfold aq;rw[if_pos (by simp[hp])];rwa[qa3,if_pos hp];congr 1
    have hk:∀q∈r,¬ q.1=k:=λq Y z=>by have:=(qc6.mp O).1;exact this (show p.1∈r.map (·.1)by rw[hp,<- z];exact List.mem_map_of_mem Y)
    exact(qg3 λq Y=>if_neg (hk q Y)).trans (List.map_id' r)
   .rw[if_neg hp];unfold aq;have e:(p::r).any (λkv=>decide (kv.1=k))=r.any λkv=>decide (kv.1=k):=by simp[hp]
    rw[e];split
    .rwa[qa3,if_neg hp]
    .rfl
 intro J1;induction J1 with
 |nil=>
  intro l d O he;cases l with
  |nil=>exact⟨rfl,λK F r _=>by simpa[aG,aq] using Reps.one r⟩
  |cons q l=>cases he
 |cons p r ih=>
  intro l d O he;cases l with
  |nil=>cases he
  |cons q l=>
   rwa[qa3,qs9]at he;have hn':=(qc6.mp O).2;rw[key _ O];rwa[aG];rw[<- he.1];by_cases hp:p.1=k
   .rw[if_pos hp,if_pos hp];refine⟨by simp[he.2],λK F rd U=>?_⟩;rwa[qa3,Reps]at U ⊢;have⟨w,ws,hw,r1,Z⟩:=U;cases hw;exact⟨_,_,rfl,rd,Z⟩
   .rw[if_neg hp,if_neg hp];have⟨i1,i2⟩:=ih l d hn' he.2;refine⟨by simp[he.1,i1],λK F rd U=>?_⟩;rwa[qa3,Reps]at U ⊢;have⟨w,ws,hw,r1,Z⟩:=U;cases hw;exact⟨_,_,rfl,r1,i2 K F rd Z⟩
end
def vwO:CO->ζ Dt
 |.e l=>(dats l).map .e
 |.dK l=>(dats (l.map (·.2))).map (.dct (l.map (·.1)))
 |.dT l=>(dats (l.map (·.2))).map (.dcT (l.map (·.1)))
 |_=>ψ
def vw(ch:CH):CV->ζ Dt
 |.g d=>ς d
 |.ref i=>(ch[i]?).bind vwO
 |.own _ t=>t.d
 |.fn _ _=>ψ
def vws(ch:CH):η CV->ζ (η Dt)
 |[]=>ς []
 |c::l=>(vw ch c).bind λd=>(vws ch l).map (d::·)
section
variable{G:Gx}{Φ:Fr0}{F H F' H' F1 H1:Hp}{ρ ρ' ρ1:Nat->J4}{n:Nat}{δ:Sl}{σ:St}{ch ch' ch1 ch2:CH}{c:CV}{v:V}{Q:VK}{d:Dt}{t:T}
theorem aO(g:Gh G F H ρ ch)(r:RelC G F H ρ ch.length c v)(h:vw ch c=ς d):RepB G.K F H d v:=by
 cases c with
 |g e=>cases h;exact RepB.of g.fh r
 |fn _ _=>cases h
 |own b t=>have⟨a,rfl,_,Y,_⟩:=r;exact Y.repB g.fh h
 |ref i=>
  have⟨_,rfl⟩:=r;have⟨o,h1,h2⟩:=bS h;have O:=g.ok i o h1;cases o with
  |e l=>have⟨ds,q,rfl⟩:=mS h2;have⟨vs,e,U⟩:=O;exact⟨_,vs,rfl,SqL.of e,aW q U⟩
  |t l=>cases h2
  |dK l=>have⟨ds,q,rfl⟩:=mS h2;have⟨_,vs,e,W,U⟩:=O;exact⟨_,vs,rfl,.of e,W,aW q U⟩
  |dT l=>have⟨ds,q,rfl⟩:=mS h2;have⟨_,vs,e,W,U⟩:=O;exact⟨_,vs,rfl,.of e,W,aW q U⟩
  |ins c l=>cases h2
theorem fU(g:Gh G F H ρ ch):∀{l:η CV}{ds:η Dt}{vs:η V},RelCs G F H ρ ch.length l vs->vws ch l=ς ds->lH G.K F H ds vs
 |[],_,_,.nil,h=>by cases h;exact rfl
 |c::l,_,_,.cons r t,h=>by have⟨d,h1,h2⟩:=bS h;have⟨ds,O,rfl⟩:=mS h2;exact⟨_,_,rfl,aO g r h1,fU g t O⟩
inductive Md where|v|o|w
noncomputable def al(ch:CH):T->ζ (CV×CH)
 |.f d=>ς (.g d,ch)
 |.e l=>ς (.ref ch.length,ch++[.e (l.map .g)])
 |.dct l=>if(l.map (·.1)).Nodup then ς (.ref ch.length,ch++[.dK (l.map λp=>(p.1,.g p.2))])else ψ
 |.dcT l=>if(l.map (·.1)).Nodup then ς (.ref ch.length,ch++[.dT (l.map λp=>(p.1,.g p.2))])else ψ
 |_=>ψ
def fin(m:Md)(ch:CH)(t:T):ζ (CV×CH):=match m with
 |.v=>t.d.map λd=>(.g d,ch)
 |.o=>al ch t
 |.w=>if t.own then ς (.own θ t,ch)else ψ
omit x in
theorem bE{m:Md}(g:Gh G F H ρ ch)(h:fin m ch t=ς (c,ch'))(k:KM G RV F H ρ ch c ch' Q):KO G.K F H t Q:=by
 have f:∀{d:Dt},KM G RV F H ρ ch (.g d) ch Q->KL G.K F H d Q:=λk v H' F' st r=>k.sol (.of g st) r
 cases m with
 |v=>have h:t.d.map (λd=>(CV.g d,ch))=ς (c,ch'):=h;have⟨d,hd,e⟩:=mS h;cases e;exact KL.to hd (f k)
 |w=>
  have h:(if t.own then ς (CV.own θ t,ch)else ψ)=ς (c,ch'):=h;rcases h
  rename_i W;cases h;intro v H' F' S st o O
  have ha:∃a,v=.ref a:=by
   cases t<;>try(cases W;done)
   all_goals (have⟨a,_,e,_⟩:=o;exact⟨a,e⟩)
  have⟨a,rfl⟩:=ha;have U:=qM W o;refine k _ F' H' ρ (.of g st) ⟨⟨a,rfl,W,?_,(O a U).1,λi hi e=>?_⟩,λ_ _ b e=>by cases e;exact(O a U).2.1⟩
  .cases t<;>try(cases W;done)
   all_goals (have⟨b,vs,e,_,r⟩:=o;cases e;exact⟨a,vs,rfl,rfl,r⟩)
  .have⟨u,hu⟩:=g.at hi;rw[e,(O a U).2.1]at hu;cases hu
 |o=>
  cases t with
  |f d=>cases h;exact KL.to rfl (f k)
  |e l=>cases h;rintro v H' F' S st ⟨a,vs,rfl,U,h1,h2⟩ O;refine k.sol (.new g st (O a U).2.1 (O a U).1 ⟨vs,h1,RelSs.dats h2⟩) ⟨Ξ,?_⟩;simp
  |dct l=>
   have h:(if(l.map (·.1)).Nodup then ς (CV.ref ch.length,ch++[CO.dK (l.map λp=>(p.1,CV.g p.2))])else ψ)=ς (c,ch'):=h;split at h<;>cases h
   rename_i Z;rintro v H' F' S st ⟨a,vs,rfl,U,h1,h2,Y⟩ O;refine k.sol (.new g st (O a U).2.1 (O a U).1 ⟨by rw[qd1];exact Z,vs,h1,by rw[h2,qd1];rfl,?_⟩) ⟨Ξ,Ξ⟩;have:=RelSs.dats (G:=G) (F:=F') (ρ:=λi=>if i=ch.length then a else ρ i) (n:=ch.length+1) Y
   rw[qd1]at this ⊢;assumption
  |dcT l=>
   have h:(if(l.map (·.1)).Nodup then ς (CV.ref ch.length,ch++[CO.dT (l.map λp=>(p.1,CV.g p.2))])else ψ)=ς (c,ch'):=h;split at h<;>cases h
   rename_i Z;rintro v H' F' S st ⟨a,vs,rfl,U,h1,h2,Y⟩ O;refine k.sol (.new g st (O a U).2.1 (O a U).1 ⟨by rw[qd1];exact Z,vs,h1,by rw[h2,qd1];rfl,?_⟩) ⟨Ξ,Ξ⟩;have:=RelSs.dats (G:=G) (F:=F') (ρ:=λi=>if i=ch.length then a else ρ i) (n:=ch.length+1) Y
   rw[qd1]at this ⊢;assumption
  |fn a F0=>cases h
  |exc _ _=>cases h
  |rse _ _=>cases h
end
variable{r:R2}{y:V}
section
variable{G:Gx}{X:Cx}{e a b c o:J8}{es rest:η J8}{f fa fb fc:Fg}{fs:FM (η CV)}{ta tb tc:FM Bool}{pos apos cpos p:Pos}{i:Nat}{m:Md}{d:Dt}
noncomputable def eK(d:Dt):Fg:=λ_ ch=>ς (.g d,ch)
theorem ui{v:V}(h:PE X e (tC v))(r:∀F,Rep G.K F d v):GE G X e (eK d):=PE.mono h λσ H Q O=>by have⟨Φ,δ,ch,F,ρ,a,ch',en,U,k⟩:=O;cases U;exact k.dat en.gh (r F)
noncomputable def lent:CV->CV
 |.own _ t=>.own ξ t
 |c=>c
noncomputable def eV(i:Nat):Fg:=λδ ch=>match δ[i]? with
 |some (ς c)=>ς (lent c,ch)
 |_=>ψ
omit x in
theorem BF(h:PE X e (qm i)):GE G X e (eV i):=PE.mono h λσ H Q U=>by
 have⟨Φ,δ,ch,F,ρ,a,ch',en,O,k⟩:=U;unfold eV at O;rcases O
 rename_i c hc;cases O;have⟨v,h1,h2⟩:=en.has i c hc;refine⟨v,h1,k v F H ρ (.refl en.gh) ⟨?_,λt e=>?_⟩⟩
 .cases c<;>exact h2
 .cases c<;>cases e
def k2(m:Md)(g:Dt->Dt->ζ T):η CV->Fg:=λcs _ ch=>match cs with
 |[x,y]=>(vw ch x).bind λx=>(vw ch y).bind λy=>(g x y).bind (fin m ch)
 |_=>ψ
def e2(m:Md)(g:Dt->Dt->ζ T)(fa fb:Fg):Fg:=λδ ch=>(fa δ ch).bind λp=>(fb δ p.2).bind λq=>(vw q.2 p.1).bind λx=>(vw q.2 q.1).bind λy=>(g x y).bind (fin m q.2)
theorem Eg{g:Dt->Dt->ζ T}(hr:R2D G.K r g){Q:VK}{x:V}(h:tK G RV (k2 m g) σ [x,y] H Q):r x y H Q:=by have⟨Φ,δ,ch,F,ρ,cs,c,ch',en,U,O,k⟩:=h;obtain _|⟨W,_|⟨Z,_|_⟩⟩:=U;have⟨x,Y,O⟩:=bS O;have⟨y,hy,O⟩:=bS O;have⟨t,ht,O⟩:=bS O;exact hr F H x y _ _ Q t en.gh.fh (aO en.gh W Y) (aO en.gh Z hy) ht (bE en.gh O k)
theorem uj{g:Dt->Dt->ζ T}(O:R2D G.K r g){Q:VK}(h:tM G RV (e2 m g fa fb) σ H Q):tOp r (tM G RV fa) (tM G RV fb) σ H Q:=(tK.two (k:=k2 m g) h).imp λ_ _ h=>h.imp λ_ _ h=>Eg O h
theorem BG{op:qq2}{g:Dt->Dt->ζ T}(O:OpR X (qi0 op) r)(W:R2D G.K r g)(U:GE G X a fa)(hb:GE G X b fb):GE G X (.BinOp a op b pos) (e2 m g fa fb):=PE.mono (DR O U hb) λ_ _ _=>uj W
theorem BH{op:CmpOp}{g:Dt->Dt->ζ T}(O:OpR X (qe2 op) r)(W:R2D G.K r g)(U:GE G X a fa)(hb:GE G X b fb)(hm:qz5 op b=ξ):GE G X (.Compare a [op] [b] pos) (e2 m g fa fb):=PE.mono (wP O U hb hm) λ_ _ _=>uj W
noncomputable def dN:CV->ζ Bool
 |.g (.bl b)=>ς b
 |_=>ψ
theorem oS{F:Hp}{n:Nat}{c:CV}{b:Bool}{v:V}(h:dN c=ς b)(r:RelC G F H ρ n c v):v=.bl b:=by
 cases c with
 |g d=>cases d<;>cases h;exact r
 |_=>cases h
def iQ(f:Fg):FM Bool:=λδ ch=>(f δ ch).bind λp=>(dN p.1).map λb=>(b,p.2)
theorem xB{Q:Bool->Hp->Prop}(h:tM G RB (iQ f) σ H Q):tM G RV f σ H λx H'=>∃k,x=.bl k/\Q k H':=by
 refine(tK.one (k:=λcs _ ch=>match cs with|[c]=>(dN c).map λb=>(b,ch)|_=>ψ) h).imp λx H' h=>?_
 have⟨Φ,δ,ch,F,ρ,cs,c,ch',en,O,W,k⟩:=h;obtain _|⟨U,_|_⟩:=O;have⟨q,hb,e⟩:=mS W;cases e;exact⟨_,oS hb U,k _ F H' ρ (.refl en.gh) rfl⟩
theorem BI{op:CmpOp}{g:Dt->Dt->ζ T}(O:OpR X (qe2 op) r)(W:R2D G.K r g)(U:GE G X a fa)(hb:GE G X b fb)(hm:qz5 op b=ξ):GT G X (.Compare a [op] [b] pos) (iQ (e2 m g fa fb)):=PT.mono (wQ O U hb hm) λ_ _ _ h=>uj W (xB h)
def hW(f:Fg):FM Bool:=λδ ch=>(f δ ch).bind λp=>(vw p.2 p.1).bind λd=>(qN d).map λb=>(b,p.2)
theorem BJ(hK:X.K=G.K)(W:GE G X a fa)(he:∀O,isTrue a X.env O=(do let v <- O;qx8 a.pos;qo5 [v] (truthy v))):GT G X a (hW fa):=PT.mono (sI W he) λσ H Q h=>by
 refine(tK.one (k:=λcs _ ch=>match cs with|[c]=>(vw ch c).bind λd=>(qN d).map λb=>(b,ch)|_=>ψ) h).imp λx H' h=>?_
 have⟨Φ,δ,ch,F,ρ,cs,c,ch',en,Y,U,k⟩:=h;obtain _|⟨Z,_|_⟩:=Y;have⟨d,hd,U⟩:=bS U;have⟨q,hb,e⟩:=mS U;cases e;exact⟨_,by rw[hK];exact xn en.gh.fh (aO en.gh Z hd) hb,k _ F H' ρ (.refl en.gh) rfl⟩
variable{σ:St}{H:Hp}
noncomputable def tNt(f:FM Bool):FM Bool:=λδ ch=>(f δ ch).map λp=>(!p.1,p.2)
noncomputable def tAn(f g:FM Bool):FM Bool:=λδ ch=>(f δ ch).bind λp=>if p.1 then g δ p.2 else ς (ξ,p.2)
noncomputable def uk(f g:FM Bool):FM Bool:=λδ ch=>(f δ ch).bind λp=>if p.1 then ς (θ,p.2)else g δ p.2
theorem tM.ret{α β:Type}{R:RL α β}{x:α}{y:β}{Q:β->Hp->Prop}(h:tM G R (λ_ ch=>ς (x,ch)) σ H Q)(r:∀F ρ n,R G H F H ρ n x y):Q y H:=by have⟨Φ,δ,ch,F,ρ,a,ch',en,O,k⟩:=h;cases O;exact k y F H ρ (.refl en.gh) (r _ _ _)
theorem BK(h:GT G X a ta):GT G X (.UnaryOp .Not a pos) (tNt ta):=PT.mono (Ax h) λσ H Q O=>by have⟨Φ,δ,ch,F,ρ,c,ch',en,U,k⟩:=O;have⟨p,h1,e⟩:=mS U;cases e;exact⟨Φ,δ,ch,F,ρ,p.1,p.2,en,h1,λb F' H' ρ' d r=>by cases r;exact k _ F' H' ρ' d rfl⟩
theorem BL{Q:Bool->Hp->Prop}(h:tM G RB (tAn ta tb) σ H Q):tAnd (tM G RB ta) (tM G RB tb) σ H Q:=(tK.test (k:=λb δ ch=>if b then tb δ ch else ς (ξ,ch)) h).imp λb H' h=>by
 cases b with
 |true=>exact h
 |false=>exact h.ret λ_ _ _=>rfl
theorem BM{Q:Bool->Hp->Prop}(h:tM G RB (uk ta tb) σ H Q):tOr (tM G RB ta) (tM G RB tb) σ H Q:=(tK.test (k:=λb δ ch=>if b then ς (θ,ch)else tb δ ch) h).imp λb H' h=>by
 cases b with
 |true=>exact h.ret λ_ _ _=>rfl
 |false=>exact h
theorem xC(h:GT G X a ta):GW G X (.BoolOp .And [a] pos) ta:=wH h
theorem BN(h:GT G X a ta):GW G X (.BoolOp .Or [a] pos) ta:=Av h
theorem ul(h:GT G X a ta)(h':GW G X (.BoolOp .And (b::rest) pos) tb):GW G X (.BoolOp .And (a::b::rest) pos) (tAn ta tb):=PW.mono (Aw h h') λ_ _ _ h=>BL h
theorem zI(h:GT G X a ta)(h':GW G X (.BoolOp .Or (b::rest) pos) tb):GW G X (.BoolOp .Or (a::b::rest) pos) (uk ta tb):=PW.mono (DJ h h') λ_ _ _ h=>BM h
theorem GW.t(h:GW G X a ta):GT G X a ta:=PW.pt h
def eAn(f g:Fg):Fg:=λδ ch=>(f δ ch).bind λp=>(dN p.1).bind λb=>if b then g δ p.2 else ς (.g (.bl ξ),p.2)
def eNt(f:Fg):Fg:=λδ ch=>(f δ ch).bind λp=>(dN p.1).bind λb=>ς (.g (.bl (!b)),p.2)
theorem BO{op}(h:GE G X a fa):GE G X (.BoolOp op [a] pos) fa:=Ay h
theorem zJ{α β:Type}{R:RL α β}[RMono R]{kk:Bool->FM α}{Q:β->Hp->Prop}(h:tM G R (λδ ch=>(fa δ ch).bind λp=>(dN p.1).bind λb=>kk b δ p.2) σ H Q):tM G RV fa σ H λx H1=>∃c,x=.bl c/\tM G R (kk c) σ H1 Q:=by
 refine(tK.one (k:=λcs δ ch=>match cs with|[c]=>(dN c).bind λb=>kk b δ ch|_=>ψ) h).imp λx H' h=>?_
 have⟨Φ,δ,ch,F,ρ,cs,c,ch',en,U,O,k⟩:=h;obtain _|⟨W,_|_⟩:=U;have⟨q,hb,e⟩:=bS O;exact⟨q,oS hb W,Φ,δ,ch,F,ρ,c,ch',en,e,k⟩
theorem um{d:Dt}{v:V}(r:∀F,Rep G.K F d v):∀F ρ n,RV G H F H ρ n (.g d) v:=λF _ _=>⟨r F,λ_ e=>nomatch e⟩
theorem BP(h:GE G X a fa):GE G X (.UnaryOp .Not a pos) (eNt fa):=PE.mono (AA h) λσ H Q h=>(zJ (kk:=λb _ ch=>ς (CV.g (.bl (!b)),ch)) h).imp λx H' O=>by have⟨c,e,h⟩:=O;exact⟨c,e,h.ret (um λ_=>g9)⟩
theorem uo(h:GE G X a fa)(h':GE G X (.BoolOp .And (b::rest) pos) fb):GE G X (.BoolOp .And (a::b::rest) pos) (eAn fa fb):=PE.mono (Az h h') λσ H Q h=>(zJ (kk:=λb δ ch=>if b then fb δ ch else ς (.g (.bl ξ),ch)) h).imp λx H' O=>by have⟨c,e,h⟩:=O;exact⟨c,e,by
 cases c with
 |true=>exact h
 |false=>exact h.ret (um λ_=>g9)⟩
noncomputable def eIf(c:FM Bool)(f g:Fg):Fg:=λδ ch=>(c δ ch).bind λp=>if p.1 then f δ p.2 else g δ p.2
theorem Eh(hc:GT G X c tc)(h:GE G X a fa)(h':GE G X b fb):GE G X (.IfExp c a b pos) (eIf tc fa fb):=PE.mono (sj hc h h') λσ H Q h=>(tK.test (k:=λb δ ch=>if b then fa δ ch else fb δ ch) h).imp λb H' h=>by cases b<;>exact h
noncomputable def bR:CV->ζ Int
 |.g (.int i)=>ς i
 |_=>ψ
theorem cu{F:Hp}{n:Nat}{c:CV}{b:Int}{v:V}(h:bR c=ς b)(r:RelC G F H ρ n c v):v=.int b:=by
 cases c with
 |g d=>cases d<;>cases h;exact r
 |_=>cases h
def eNg(f:Fg):Fg:=λδ ch=>(f δ ch).bind λp=>(bR p.1).bind λi=>ς (.g (.int (-i)),p.2)
theorem BQ(h:GE G X a fa):GE G X (.UnaryOp .USub a pos) (eNg fa):=PE.mono (DS AV h) λσ H Q h=>by
 refine(tK.one (k:=λcs _ ch=>match cs with|[c]=>(bR c).bind λi=>ς (CV.g (.int (-i)),ch)|_=>ψ) h).imp λx H' h=>?_
 have⟨Φ,δ,ch,F,ρ,cs,c,ch',en,O,W,k⟩:=h;obtain _|⟨U,_|_⟩:=O;have⟨q,hb,e⟩:=bS W;cases e;exact⟨q,cu hb U,k.dat en.gh bh⟩
noncomputable def aNl:FM (η CV):=λ_ ch=>ς ([],ch)
noncomputable def aCn(f:Fg)(fs:FM (η CV)):FM (η CV):=λδ ch=>(f δ ch).bind λp=>(fs δ p.2).map λq=>(p.1::q.1,q.2)
theorem BR:GA G X [] aNl:=PA.mono ck λσ H Q h=>h.ret λ_ _ _=>.nil
theorem xD(h:GE G X e f)(Z:GA G X es fs)(hs:qb3 (e::es) X.env=(ξ,eval e X.env)::qb3 es X.env):GA G X (e::es) (aCn f fs):=PA.mono (bf h Z hs) λσ H Q U=>by have⟨Φ,δ,ch,F,ρ,c,ch',en,O,k⟩:=U;have⟨p,h1,O⟩:=bS O;have⟨q,h2,e⟩:=mS O;cases e;exact⟨Φ,δ,ch,F,ρ,p.1,p.2,en,h1,λx F1 H1 ρ1 d1 W=>⟨Φ,δ,p.2,F1,ρ1,q.1,q.2,en.adv d1,h2,λus F2 H2 ρ2 d2 Y=>(k.adv d1) _ F2 H2 ρ2 d2 (.cons (W.1.adv d2) Y)⟩⟩
end
variable{C:J4}
theorem ClsAt.inj{c:Str}{C':J4}(h:ClsAt K c C)(h':ClsAt K c C'):C=C':=by unfold ClsAt at h h';rw[h]at h';cases h';rfl
section
variable{X:Cx}
def BS:R2:=λx y H Q=>∃a v,x=.ref a/\DGet H a y (ς v)/\Q v H
theorem xG(hu:X.A.units+1<cLine):IxR X BS:=by
 intro value O J0 s σ H x y v u Q I Z ry ⟨a,w,ex,g,q⟩ hs;subst ex;obtain rfl:v=qb6 a:=Z;have W:=lF I g;unfold ze1;refine wB ?_;rw[getitemInPython_of_ne W.not_modules];refine wB (wpAny_specialOf W PySem.F.slot_dict_getitem.lookup ?_)
 have fin:wpAny (model X.prog X.w) X.A (subscripted O ξ (.ref a) u) (λr s₃=>wpAny (model X.prog X.w) X.A (letTemporaryGo value (.ref a) r >>= λ_=>pure r) (EP X J0 σ Q) X.xe s₃) X.xe s:=by rw[hs];exact wpAny_operating (qE hu I g ry λw' s3 Y U=>wB (wpAny_letTemporaryGo (qa2 ⟨w,H,Y,U,q⟩)))
 first
  |exact qa2 (wB fin)
  |exact wB (qa2 (wB fin))
  |exact wB fin
def BT(O:Bool):R2:=λy x H Q=>∃a o,x=.ref a/\DGet H a y o/\Q (.bl (if O then !o.isSome else o.isSome)) H
theorem BU(W:X.A.units+1<cLine):OpR X (qe2 .In) (BT ξ):=by intro J0 s σ H y x iv u Q I Y U ⟨a,o,ex,g,q⟩;subst ex;obtain rfl:u=qb6 a:=U;exact d_in W I g Y λs3 O=>⟨.bl o.isSome,H,O,rfl,q⟩
theorem qU(W:X.A.units+1<cLine):OpR X (qe2 .NotIn) (BT θ):=by intro J0 s σ H y x iv u Q I Y U ⟨a,o,ex,g,q⟩;subst ex;obtain rfl:u=qb6 a:=U;exact xc W I g Y λs3 O=>⟨.bl (!o.isSome),H,O,rfl,q⟩
def uq:su:=λo i v H Q=>∃a H',o=.ref a/\DPut H a i v H'/\Q H'
theorem lL(Z:X.A.units+1<cLine):PSet X uq:=by intro J0 s σ H o i v W iv u Q I O ri U ⟨a,H',ex,g,q⟩;subst ex;obtain rfl:W=qb6 a:=O;exact qF Z I g ri U λs4 Y=>⟨H',Y,q⟩
theorem PSet.or{r U:su}(h:PSet X r)(h':PSet X U):PSet X (λo i v H Q=>r o i v H Q\/U o i v H Q):=by
 intro J0 s σ H o i v Z iv u Q I O W Y q;rcases q with q|q
 .exact h J0 s σ H o i v Z iv u Q I O W Y q
 .exact h' J0 s σ H o i v Z iv u Q I O W Y q
end
variable{ks:η Key}{vk:V}{pn:Str×η Str}{as:TA}
section
variable{G:Gx}{X:Cx}{e a b c o:J8}{es rest:η J8}{f fa fb fc:Fg}{fs:FM (η CV)}{ta tb tc:FM Bool}{pos apos cpos p:Pos}{i:Nat}{m:Md}{d:Dt}{σ:St}{F H:Hp}{ρ:Nat->J4}{ch ch':CH}{Q:VK}
theorem BV{o:CO}{a:J4}(g:Gh G F H ρ ch)(O:H a=ψ)(U:CoOk G F (upd H a u) ρ ch.length a o):Adv G F H ρ ch F (upd H a u) (λi=>if i=ch.length then a else ρ i) (ch++[o]):=Adv.new g (Step.made g.fh O) O (g.fh.free O) (U.mono (Same.refl _) (λi hi=>if_neg (qc5 hi)) (qn7 _) λ_ h=>h)
theorem km{o:CO}{a:J4}(g:Gh G F H ρ ch)(U:H a=ψ)(O:CoOk G F (upd H a u) ρ ch.length a o)(k:KM G RV F H ρ ch (.ref ch.length) (ch++[o]) Q):Q (.ref a) (upd H a u):=k.sol (BV g U O) ⟨Ξ,Ξ⟩
def finL(m:Md)(l:η CV)(ch:CH):ζ (CV×CH):=match dats l with
 |some ds=>fin m ch (.e ds)
 |none=>if l.all CV.sol then ς (.ref ch.length,ch++[.e l])else ψ
def eLs(m:Md)(fs:FM (η CV)):Fg:=λδ ch=>(fs δ ch).bind λp=>if p.1.length<=qa5 then finL m p.1 p.2 else ψ
omit x in
theorem BW(h:GA G X es fs):GE G X (.List es pos) (eLs m fs):=PE.mono (A9 h) λσ H Q h=>by
 refine(tK.args (k:=λl _ ch=>if l.length<=qa5 then finL m l ch else ψ) h).imp λvs H1 W=>?_
 have⟨Φ,δ,ch,F,ρ,cs,c,ch',en,U,O,k⟩:=W;dsimp only at O;rcases O
 rename_i hz;refine⟨by rw[<- Paired.length U];exact hz,λq Y=>?_⟩;unfold finL at O;split at O
 .rename_i ds Z;exact bP (bE en.gh O k) en.gh.fh (aW Z (RelCs.s (by rw[cq Z];simp[CV.sol]) U)) Y
 .split at O<;>cases O
  rename_i hs;exact km (o:=.e cs) en.gh Y ⟨vs,ac,U.s hs⟩ k
def eTu(fs:FM (η CV)):Fg:=λδ ch=>(fs δ ch).bind λp=>if p.1.length<=qa5 then(match dats p.1 with
 |some ds=>ς (.g (.t ds),p.2)
 |none=>if p.1.all CV.sol then ς (.ref p.2.length,p.2++[.t p.1])else ψ)else ψ
omit x in
theorem BX{x1}(h:GA G X es fs):GE G X (.Tuple es x1 pos) (eTu fs):=PE.mono (A8 h) λσ H Q h=>by
 refine(tK.args (k:=λl _ ch=>if l.length<=qa5 then(match dats l with
  |some ds=>ς (CV.g (.t ds),ch)
  |none=>if l.all CV.sol then ς (.ref ch.length,ch++[.t l])else ψ)else ψ) h).imp λvs H1 W=>?_
 have⟨Φ,δ,ch,F,ρ,cs,c,ch',en,U,O,k⟩:=W;dsimp only at O;rcases O
 rename_i hz;refine⟨by rw[<- Paired.length U];exact hz,λq Y=>?_⟩;split at O
 .rename_i ds Z;cases O;exact KO.tup (bE (m:=.v) (t:=.f (.t ds)) en.gh rfl k) en.gh.fh (aW Z (RelCs.s (by rw[cq Z];simp[CV.sol]) U)) Y
 .split at O<;>cases O
  rename_i hs;exact km (o:=.t cs) en.gh Y ⟨vs,ac,U.s hs⟩ k
noncomputable def isK:Dt->ζ (η Key)
 |.t [.int n,.str s]=>ς [.inl n,.inr s]
 |.t [.str s,.int n]=>ς [.inr s,.inl n]
 |_=>ψ
noncomputable def dO(K:xA9):Bool:=K.all λp=>match p.2.data with
 |.seq J3 _=>(match J3.toList with
  |[.int _ _,.str _ _]|[.str _ _,.int _ _]=>ξ
  |_=>θ)
 |_=>θ
theorem lM{a:J4}{o:Obj}:∀{K:η (J4×Obj)},K.lookup a=ς o->(a,o)∈K
 |[],h=>by cases h
 |(b,u)::K,h=>by
  rw[qk3]at h;cases q:a==b with
  |true=>rw[q]at h;cases h;rw[beq_iff_eq.mp q];exact .head _
  |false=>rw[q]at h;exact .tail _ (lM h)
theorem hZ{v:V}(hK:dO K=θ)(h:isK d=ς ks)(r:RepB K F H d v):∃b,v=.ref b/\F b=ς (.t (ks.map kV)):=by
 have U:∀{a:J4}{x y:V},SqT K F a [x,y]->((∃n s,x=.int n/\y=.str s)\/∃n s,x=.str s/\y=.int n)->F a=ς (.t [x,y]):=λ{a x y} h Y=>by
  rcases h with h|⟨o,J3,m,hk,hc,Z,hz,r⟩
  .exact h
  .have O:=qc0.mp hK (a,o) (lM hk);dsimp only at O;rw[Z.1]at O;dsimp only at O;generalize J3.toList=w at O r;obtain _|⟨r1,_|⟨r2,_|_⟩⟩:=r;rcases Y with ⟨n,s,rfl,rfl⟩|⟨n,s,rfl,rfl⟩<;>(have⟨t1,rfl⟩:=r1;have⟨t2,rfl⟩:=r2;cases O)
 unfold isK at h;split at h<;>cases h
 all_goals
  have⟨a,vs,rfl,h1,h2⟩:=r;unfold Reps at h2;have⟨v1,w1,rfl,W,h2⟩:=h2;unfold Reps at h2;have⟨v2,w2,rfl,q2,h2⟩:=h2;unfold Reps at h2;subst h2;rwa[Rep]at W q2;subst W q2
 .exact⟨a,rfl,U h1 (.inl ⟨_,_,rfl,rfl⟩)⟩
 .exact⟨a,rfl,U h1 (.inr ⟨_,_,rfl,rfl⟩)⟩
def bQ(x k:Dt):ζ (ζ Dt):=match x with
 |.dct ks l=>(cJ k).map (am ks l)
 |.dcT ks l=>(isK k).map (am ks l)
 |_=>ψ
theorem ia{x k:Dt}{r:ζ Dt}(hK:dO K=θ)(Z:Same F H)(W:RepB K F H x vx)(Y:RepB K F H k vk)(h:bQ x k=ς r):∃a o,vx=.ref a/\DGet H a vk o/\(∀d,r=ς d->∃v,o=ς v/\Rep K F d v)/\(r=ψ->o=ψ):=by
 cases x with
 |dct ks l=>have⟨q,U,rfl⟩:=mS h;have⟨a,J1,rfl,h1,rfl,O⟩:=W;refine⟨a,_,rfl,.inl ⟨J1,q,h1,cr Y U,rfl⟩,?_⟩;exact⟨λd e=>fQ O e,λe=>fR O e⟩
 |dcT ks l=>have⟨q,U,rfl⟩:=mS h;have⟨a,J1,rfl,h1,rfl,O⟩:=W;have⟨b,rfl,hb⟩:=hZ hK U Y;refine⟨a,_,rfl,.inr ⟨J1,q,b,h1,rfl,Z _ _ hb,rfl⟩,?_⟩;exact⟨λd e=>fQ O e,λe=>fR O e⟩
 |_=>cases h
noncomputable def lkC{κ:Type}[DecidableEq κ](l:η (κ×CV))(k:κ):ζ CV:=(l.find? λp=>decide (p.1=k)).map (·.2)
theorem gD {κ:Type} [DecidableEq κ] {n:Nat} {k:κ}:∀ {l:η (κ×CV)} {J1:η (κ×V)},J1.map (·.1)=l.map (·.1)->RelSs G F ρ n (l.map (·.2)) (J1.map (·.2))→
  match lkC l k with|some c=>∃v,bp J1 k=ς v/\RelS G F ρ n c v|none=>bp J1 k=ψ
 |[],[],_,_=>rfl
 |[],p::J1,e,_=>by cases e
 |p::l,[],e,_=>by cases e
 |(k1,c)::l,(k2,v)::J1,e,r=>by
  rwa[qa3,qs9]at e;have⟨rfl,e⟩:=e;obtain _|⟨W,Y⟩:=r;have U:=gD (k:=k) e Y;by_cases O:k2=k
  .subst O;rwa[lkC,ql4,decide_true,qa9];exact⟨v,by simp[bp],W⟩
  .have Z:lkC ((k2,c)::l) k=lkC l k:=by simp[lkC,ql4,O]
   have e2:bp ((k2,v)::J1) k=bp J1 k:=by simp[bp,O]
   rw[Z,e2];exact U
def ixO(o:CO)(d:Dt):ζ CV:=match o with
 |.e l=>(asI d).bind (atI l)
 |.t l=>(asI d).bind (atI l)
 |.dK l=>(cJ d).bind (lkC l)
 |.dT l=>(isK d).bind (lkC l)
 |_=>ψ
def ixD(x d:Dt):ζ Dt:=match bQ x d with
 |some r=>r
 |none=>match gIx x d with
  |some (.f y)=>ς y
  |_=>ψ
def ixV(ch:CH)(x:CV)(d:Dt):ζ CV:=match x with
 |.ref i=>(ch[i]?).bind λo=>ixO o d
 |x=>(vw ch x).bind λx=>(ixD x d).map .g
def eIx(fa fb:Fg):Fg:=λδ ch=>(fa δ ch).bind λp=>(fb δ p.2).bind λq=>(vw q.2 q.1).bind λd=>(ixV q.2 p.1 d).map λc=>(c,q.2)
theorem eM{v:V}(h:asI d=ς j)(r:RepB K F H d v):v=.int j:=by cases d<;>cases h;exact r
theorem oT{n:Nat}{l:η CV}{c:CV}(r:RelSs G F ρ n l vs)(h:atI l j=ς c):∃v,atI vs j=ς v/\RelS G F ρ n c v:=by unfold atI at h ⊢;have⟨k,h1,h2⟩:=bS h;rw[RelSs.length r,h1];exact Paired.get r h2
def kIx:η CV->Fg:=λcs _ ch=>match cs with
 |[x,y]=>(vw ch y).bind λd=>(ixV ch x d).map λc=>(c,ch)
 |_=>ψ
omit x in
theorem BY(hI:dO G.K=θ){x:V}(h:tK G RV kIx σ [x,y] H Q):rIx G.K x y H Q\/BS x y H Q:=by
 have⟨Φ,δ,ch,F,ρ,cs,c,ch',en,rs,hf,k⟩:=h;obtain _|@⟨cx,_,_,_,r1,_|@⟨cy,_,_,_,r2,_|_⟩⟩:=rs;have⟨d,hd,hf⟩:=bS hf;have⟨c',hc,e⟩:=mS hf;cases e;have rd:=aO en.gh r2 hd
 have dta:∀x z y,vw ch cx=ς x->ixD x d=ς y->CV.g y=c->RepB G.K F H x z->rIx G.K z _ H Q\/BS z _ H Q:=λx z y _ hi hy rx=>by
  subst hy;unfold ixD at hi;split at hi
  .rename_i r hr;have⟨a,o,e,hg,hm⟩:=ia hI en.gh.fh rx rd hr;have⟨v,rfl,rv⟩:=hm.1 _ hi;exact .inr ⟨a,v,e,hg,k.dat en.gh rv⟩
  .split at hi<;>cases hi
   rename_i hg;exact .inl (r_ix F H x d _ _ Q _ en.gh.fh rx rd hg (bE (m:=.v) (t:=.f y) en.gh rfl k))
 cases cx with
 |ref i=>
  have⟨_,rfl⟩:=r1;have⟨o,ho,hc⟩:=bS hc;have O:=en.gh.ok i o ho;cases o with
  |e l=>have⟨j,U,hc⟩:=bS hc;have⟨vs,h1,h2⟩:=O;have⟨u,W,Y⟩:=oT h2 hc;exact .inl (.inl ⟨_,vs,j,u,rfl,eM U rd,SqL.of h1,W,k.sol (.refl en.gh) Y⟩)
  |t l=>have⟨j,U,hc⟩:=bS hc;have⟨vs,h1,h2⟩:=O;have⟨u,W,Y⟩:=oT h2 hc;exact .inl (.inr (.inl ⟨_,vs,j,u,rfl,eM U rd,SqT.of h1,W,k.sol (.refl en.gh) Y⟩))
  |dK l=>have⟨j,U,hc⟩:=bS hc;have⟨nd,J1,h1,h2,h3⟩:=O;have lk:=gD (k:=j) h2 h3;rw[hc]at lk;have⟨u,W,Y⟩:=lk;refine .inr ⟨_,u,rfl,?_,k.sol (.refl en.gh) Y⟩;rw[cr rd U,<- W];exact DGet.k h1
  |dT l=>have⟨j,U,hc⟩:=bS hc;have⟨nd,J1,h1,h2,h3⟩:=O;have⟨b,rfl,hb⟩:=hZ hI U rd;have lk:=gD (k:=j) h2 h3;rw[hc]at lk;have⟨u,W,Y⟩:=lk;refine .inr ⟨_,u,rfl,?_,k.sol (.refl en.gh) Y⟩;rw[<- W];exact DGet.t h1 (en.gh.fh _ _ hb)
  |ins c l=>cases hc
 |g x0=>have hc:(vw ch (.g x0)).bind (λx=>(ixD x d).map .g)=ς c:=hc;have⟨x,Z,hc⟩:=bS hc;have⟨y,hy,e⟩:=mS hc;exact dta x _ y Z hy e (aO en.gh r1 Z)
 |own b t=>have⟨x,Z,hc⟩:=bS hc;have⟨y,hy,e⟩:=mS hc;exact dta x _ y Z hy e (aO en.gh r1 Z)
 |fn _ _=>cases hc
theorem Ei{k:Nat}(U:X.K=G.K)(W:dO G.K=θ)(Y:Room k X.A)(O:GE G X a fa)(hb:GE G X b fb)(hs:jU b):GE G X (.Subscript a b pos) (eIx fa fb):=PE.mono (D4 (IxR.or Be (xG (jh Y))) O hb hs) λσ H Q h=>(tK.two (k:=kIx) h).imp λ_ _ h=>h.imp λ_ _ h=>by rw[U];exact BY W h
def jq(G:Gx)(c:Nat):Prop:=∀p,G.ct[c]?=ς p->∃C,ClsAt G.K p.1 C/\Cls G.K C/\p.2.Nodup/\∀f∈p.2,NoAttr G.K C f
noncomputable def eAt(c f:Nat)(fa:Fg):Fg:=λδ ch=>(fa δ ch).bind λp=>match p.1 with
 |.ref i=>match p.2[i]? with
  |some (.ins O l)=>if O=c then(l[f]?).map λx=>(x,p.2)else ψ
  |_=>ψ
 |_=>ψ
theorem dP{f:Str}:∀{fs:η (Str×V)}{j:Nat}{v:V},(fs.map (·.1)).Nodup->(fs.map (·.1))[j]?=ς f->(fs.map (·.2))[j]?=ς v->fs.lookup f=ς v
 |[],j,v,_,h,_=>by simp at h
 |(g,x)::fs,0,v,_,h,h'=>by simp at h h';subst h h';simp[ql3]
 |(g,x)::fs,j+1,v,O,h,h'=>by
  rwa[qa3,qc6]at O;rwa[qa3,qd2]at h h'
  have U:(f==g)=ξ:=by
   have:f≠g:=λe=>O.1 (by rw[<- e];exact qa4 h)
   simpa using this
  rwa[ql3,U];exact dP O.2 h h'
theorem lN{ns:η Str}{l:η CV}{fs:η (Str×V)}{j:Nat}{x:CV}(h:fs.map (·.1)=ns.take l.length)(O:l[j]?=ς x){f:Str}(U:ns[j]?=ς f):(fs.map (·.1))[j]?=ς f:=by rw[h,qr8 (ai O)];exact U
omit x in
theorem Ej{c f:Nat}{fn:Str}(hK:X.K=G.K)(hc:jq G c)(hp:G.ct[c]?=ς pn)(hn:pn.2[f]?=ς fn)(h:GE G X o fa)(hb:qj4 o fn X.env (eval o X.env)=eval o X.env):GE G X (.Attribute o fn pos) (eAt c f fa):=PE.mono (A6 h hb) λσ H Q hq3=>by
 have⟨Φ,δ,ch,F,ρ,c0,ch',en,O,kk⟩:=hq3;have⟨⟨c1,ch1⟩,h1,hg'⟩:=bS O;clear O;have O:=hg';clear hg';cases c1 with
 |ref i=>
  dsimp only at O;rcases O
  rename_i c' l ho;rcases O
  rename_i Z;subst Z;have⟨x,hx,e⟩:=mS O;cases e;refine⟨Φ,δ,ch,F,ρ,_,_,en,h1,λv F1 H1 ρ1 a1 r1=>?_⟩;have⟨p',C',dx,fs,U,h0,ha,h2,h3⟩:=a1.gh.ok i _ ho;rw[hp]at U;cases U
  have⟨C,hC,Y,nd,W⟩:=hc pn hp;have:=hC.inj h0;subst this;have⟨u,hu,ru⟩:=Paired.get h3 hx;exact⟨_,C,dx,fs,u,r1.1.2,ha,by rw[hK];exact Y,by rw[hK];exact W _ (qa4 hn),dP (by rw[h2];exact nd.sublist (qp7 _ _)) (lN h2 hx hn) hu,kk.sol a1 ru⟩
 |_=>cases O
abbrev Fd:=η CV->CH->ζ (CV×CH)
def RS:RL CV V:=λG _ F _ ρ n c v=>RelS G F ρ n c v
def spZ(G:Gx)(n:Nat)(f:Fd):Sp:=λvs H Q _=>∃F ρ cs ch c ch',Gh G F H ρ ch/\cs.length=n/\(∀t,CV.own θ t∉cs)/\RelCs G F H ρ ch.length cs vs/\f cs ch=ς (c,ch')/\KM G RS F H ρ ch c ch' Q
noncomputable def CV.old:CV->Bool
 |.own θ _=>ξ
 |_=>θ
theorem BZ{cs:η CV}(h:cs.all CV.old=θ)(t:T):CV.own θ t∉cs:=λz=>by have:=qc0.mp h _ z;cases this
def kCa(n:Nat)(g:Fd):η CV->Fg:=λcs _ ch=>if cs.length=n/\cs.all CV.old=θ then g cs ch else ψ
omit x in
theorem kq{n:Nat}{g:Fd}(h:tK G RV (kCa n g) σ vs H Q):spZ G n g vs H Q E0:=by
 have⟨Φ,δ,ch,F,ρ,cs,c,ch',en,W,O,k⟩:=h;unfold kCa at O;rcases O
 rename_i U;exact⟨F,ρ,cs,ch,c,ch',en.gh,U.1,BZ U.2,W,O,λb F' H' ρ' a r=>k.sol a r⟩
def eCa(n:Nat)(g:Fd)(fs:FM (η CV)):Fg:=λδ ch=>(fs δ ch).bind λp=>kCa n g p.1 δ p.2
section
variable{sc:J9}{x:Str}{k n:Nat}{ps:η Str}{g:Fd}
theorem xH(h:aL sc x=θ)(F:OkF X.prog X.w X.K X.mg X.base x k ps (spZ G n g))(Y:Room k X.A)(U:GA G X (e::es) fs)(W:aY X sc)(he:qb3 (e::es) X.env=(ξ,eval e X.env)::qb3 es X.env)(O:(qi3 cpos (qb3 es X.env)).any (·.1)=ξ):GE G X (.Call (.Name x p) (e::es) [] cpos) (eCa n g fs):=PE.mono (qL h F Y U W he O) λσ H Q h=>(tK.args (k:=kCa n g) h).imp λvs H1 h=>by rw[qe5];exact kq h
theorem kt{Q:η V->Hp->Prop}(h:tM G RA aNl σ H Q):mR σ H Q:=h.ret λ_ _ _=>.nil
theorem ur(h:aL sc x=θ)(F:OkF X.prog X.w X.K X.mg X.base x k ps (spZ G n g))(U:Room k X.A)(O:aY X sc):GE G X (.Call (.Name x p) [] [] cpos) (eCa n g aNl):=PE.mono (m9 h F U O) λσ H Q h=>kt ((tK.args (k:=kCa n g) h).imp λvs H1 h=>by rw[qe5];exact kq h)
structure OkM(P:qe3)(w:J5)(K:xA9)(mg:Str->Option Value)(base:Heap)(c m:Str)(k:Nat)(ps:List Str)(sp:Sp):Prop where
 ex:∃C f fd,ClsAt K c C/\Cls K C/\Meth K C m f/\Binds K fd ps []/\FnOk P w K mg base CX0 k f fd ps sp
structure OkI(P:qe3)(w:J5)(K:xA9)(mg:Str->Option Value)(base:Heap)(c:Str)(k:Nat)(ps:List Str)(sp:Sp):Prop where
 ex:∃C f fd,ClsAt K c C/\mg c=ς (.ref C)/\Mk K C f/\Binds K fd ps []/\FnOk P w K mg base CX0 k f fd ps sp
def eMe(c n:Nat)(g:Fd)(fo:Fg)(fs:FM (η CV)):Fg:=λδ ch=>(fo δ ch).bind λp=>match p.1 with
 |.ref i=>match p.2[i]? with
  |some (.ins O _)=>if O=c then(fs δ p.2).bind λq=>kCa n g (.ref i::q.1) δ q.2 else ψ
  |_=>ψ
 |_=>ψ
theorem gk{m:Str}:∀{fs:η (Str×V)},m∉fs.map (·.1)->fs.lookup m=ψ
 |[],_=>rfl
 |(g,x)::fs,h=>by
  rwa[qa3,qc3,not_or]at h;have:(m==g)=ξ:=‹h.1›
  rwa[ql3,this];exact gk h.2
omit x in
theorem ut{c n:Nat}{m:Str}(hp:G.ct[c]?=ς pn)(h1:ClsAt G.K pn.1 C)(hm:m∉pn.2)(Z:∀ σ H Q,tM G RA fs σ H Q->as σ H Q)(σ:St)(H:Hp)(Q:VK)(h:tM G RV (eMe c n g fa fs) σ H Q):sQ C m (spZ G n g) [] E0 (tM G RV fa) as σ H Q:=by
 have⟨Φ,δ,ch,F,ρ,c0,ch',en,O,kk⟩:=h;have⟨⟨c1,ch1⟩,h2,hg'⟩:=bS O;clear O;have O:=hg';clear hg';cases c1 with
 |ref i=>
  dsimp only at O;rcases O
  rename_i c' l ho;rcases O
  rename_i hcc;subst hcc;have⟨q,hq,hg3⟩:=bS O;refine⟨Φ,δ,ch,F,ρ,_,_,en,h2,λv F1 H1 ρ1 W r1=>?_⟩;have⟨p',C',dx,gs,U,h0,ha,h3,h4⟩:=W.gh.ok i _ ho;rw[hp]at U;cases U
  have:=h1.inj h0;subst this;refine⟨_,dx,gs,r1.1.2,ha,gk (by rw[h3];exact λz=>hm (qv4 z)),Z _ _ _ ⟨Φ,δ,ch1,F1,ρ1,q.1,q.2,en.adv W,hq,λvs F2 H2 ρ2 Y r2=>?_⟩⟩;show spZ G n g (v::(vs++[])) H2 Q E0;rw[qe5];exact kq (σ:=σ) ⟨Φ,δ,q.2,F2,ρ2,.ref i::q.1,c0,ch',(en.adv W).adv Y,.cons (r1.1.adv Y) r2,hg3,(kk.adv W).adv Y⟩
 |_=>cases O
theorem xI{c:Nat}{m:Str}(W:X.K=G.K)(hp:G.ct[c]?=ς pn)(hm:m∉pn.2)(F:OkM X.prog X.w X.K X.mg X.base pn.1 m k ps (spZ G n g))(Y:Room k X.A)(Z:GE G X o fa)(U:GA G X (e::es) fs){pl:Sem Bool}(he:qb3 (e::es) X.env=(ξ,eval e X.env)::qb3 es X.env)(O:(qi3 cpos (qb3 es X.env)).any (·.1)=ξ)
 (ht:eval (.Call (.Attribute o m apos) (e::es) [] cpos) X.env=(do
 let ov <- eval o X.env
 qx8 apos.atName
 let (f,first) <- qo5 [ov] (qw2 ov m pl)
 zd0 cpos f first (qi3 cpos (qb3 (e::es) X.env)) (qp6 cpos (qi9 [] X.env)))):GE G X (.Call (.Attribute o m apos) (e::es) [] cpos) (eMe c n g fa fs):=by
 have⟨C,f,fd,h1,h2,h3,h4,h5⟩:=F.ex;rw[W]at h1;exact PE.mono (wW Z h2 h3 h5 Y h4 .nil jg U he O ht) (ut hp h1 hm λ_ _ _ q=>q)
theorem uu{c:Nat}{m:Str}(O:X.K=G.K)(hp:G.ct[c]?=ς pn)(hm:m∉pn.2)(F:OkM X.prog X.w X.K X.mg X.base pn.1 m k ps (spZ G n g))(U:Room k X.A)(W:GE G X o fa){pl:Sem Bool}
 (Z:eval (.Call (.Attribute o m apos) [] [] cpos) X.env=(do
 let ov <- eval o X.env
 qx8 apos.atName
 let (f,first) <- qo5 [ov] (qw2 ov m pl)
 zd0 cpos f first (qi3 cpos (qb3 [] X.env)) (qp6 cpos (qi9 [] X.env)))):GE G X (.Call (.Attribute o m apos) [] [] cpos) (eMe c n g fa aNl):=by
 have⟨C,f,fd,h1,h2,Y,h4,h5⟩:=F.ex;rw[O]at h1;exact PE.mono (sT W h2 Y h5 U h4 .nil jg Z) (ut hp h1 hm λ_ _ _ q=>kt q)
def eMk(c n:Nat)(g:Fd)(fs:FM (η CV)):Fg:=λδ ch=>(fs δ ch).bind λp=>(kCa n g (.ref p.2.length::p.1) δ (p.2++[.ins c []])).bind λq=>match q.1 with
 |.g .non=>if p.2.length<q.2.length then ς (.ref p.2.length,q.2)else ψ
 |_=>ψ
omit x in
theorem uv{c n:Nat}(hp:G.ct[c]?=ς pn)(h1:ClsAt G.K pn.1 C)(has:∀ σ H Q,tM G RA fs σ H Q->as σ H Q)(σ:St)(H:Hp)(Q:VK)(h:tM G RV (eMk c n g fs) σ H Q):sR C (spZ G n g) [] E0 as σ H Q:=by
 have⟨Φ,δ,ch,F,ρ,c0,ch',en,hg,kk⟩:=h;have⟨p,h2,hg2⟩:=bS hg;have⟨⟨q,ch2⟩,h3,O⟩:=bS hg2;dsimp only at O;rcases O
 rcases O
 rename_i Y;cases O;refine has _ _ _ ⟨Φ,δ,ch,F,ρ,p.1,p.2,en,h2,λvs F1 H1 ρ1 U r1 x dx hx W Z=>?_⟩;rw[qe5];have st:Step F1 H1 F1 (upd (upd H1 dx (.own x)) x (.ins C dx [])):=(Step.made U.gh.fh W).trans (Step.made (U.gh.fh.trans (Same.upd W)) (by rw[af (qj5 Z)];exact hx))
 have a2:Adv G F1 H1 ρ1 p.2 F1 (upd (upd H1 dx (.own x)) x (.ins C dx [])) (λi=>if i=p.2.length then x else ρ1 i) (p.2++[.ins c []]):=Adv.new U.gh st hx (U.gh.fh.free hx) ⟨pn,C,dx,[],hp,h1,ac,rfl,.nil⟩
 have hz:(λi=>if i=p.2.length then x else ρ1 i) p.2.length=x:=if_pos rfl;refine kq (σ:=σ) (G:=G) ⟨Φ,δ,p.2++[.ins c []],F1,_,.ref p.2.length::p.1,.g .non,ch',(en.adv U).adv a2,.cons ⟨Ξ,Ξ⟩ (RelCs.adv a2 r1),h3,λv F3 H3 ρ3 a3 r3=>⟨?_,?_⟩⟩
 .exact r3.1
 .have hl:p.2.length<(p.2++[CO.ins c []]).length:=by simp
  exact kk.sol ((U.trans a2).trans a3) ⟨Y,by rw[a3.ext _ hl];simp⟩
theorem xJ{c:Nat}(W:X.K=G.K)(hp:G.ct[c]?=ς pn)(h:aL sc pn.1=θ)(F:OkI X.prog X.w X.K X.mg X.base pn.1 k ps (spZ G n g))(Y:Room (k+1) X.A)(U:GA G X (e::es) fs)(e1:aY X sc)(he:qb3 (e::es) X.env=(ξ,eval e X.env)::qb3 es X.env)(O:(qi3 cpos (qb3 es X.env)).any (·.1)=ξ):GE G X (.Call (.Name pn.1 p) (e::es) [] cpos) (eMk c n g fs):=by have⟨C,f,fd,h1,h2,Z,h4,h5⟩:=F.ex;rw[W]at h1;exact PE.mono (wX Z h5 Y (glD h e1) h2 h4 .nil jg U (cP h) he O) (uv hp h1 λ_ _ _ q=>q)
theorem uw{c:Nat}(U:X.K=G.K)(hp:G.ct[c]?=ς pn)(h:aL sc pn.1=θ)(F:OkI X.prog X.w X.K X.mg X.base pn.1 k ps (spZ G n g))(O:Room (k+1) X.A)(Y:aY X sc):GE G X (.Call (.Name pn.1 p) [] [] cpos) (eMk c n g aNl):=by have⟨C,f,fd,h1,h2,W,h4,Z⟩:=F.ex;rw[U]at h1;exact PE.mono (sU W Z O (glD h Y) h2 h4 .nil jg (cP h)) (uv hp h1 λ_ _ _ q=>kt q)
end
end
noncomputable def CV.kp:CV->Bool
 |.own ξ _=>ξ
 |_=>θ
section
variable{G:Gx}{Φ:Fr0}{F H F' H' F1 H1:Hp}{ρ ρ' ρ1:Nat->J4}{n:Nat}{δ:Sl}{σ:St}{ch ch' ch1 ch2:CH}{c:CV}{v:V}{Q:VK}{d:Dt}{t t':T}{i:Nat}{a:J4}
theorem RelW.there(h:RelW G F H ρ n t v):∃a o,v=.ref a/\H a=ς o/\NT o:=by
 have⟨x,rfl,U,O,_⟩:=h;cases t<;>try(cases U;done)
 all_goals (have⟨b,vs,e,rfl,h1,_⟩:=O;exact⟨_,_,rfl,h1,by intro _ z;cases z⟩)
theorem Ge.put(W:Ge G Φ δ ch σ F H ρ)(ad:Adv G F H ρ ch F' H' ρ' ch')(r:RelC G F' H' ρ' ch'.length c v)(hn:zG H c v)(hk:c.kp=θ)(i:Nat):Ge G Φ (δ.set i (ς c)) ch' (σ.set i (ς v)) F' H' ρ':=by
 have en:=W.adv ad;have hl:=en.len
 have U:∀(j:Nat)(b:Bool)(u:T)(x:J4),δ[j]?=ς (ς (.own b u))->σ[j]?=ς (ς (.ref x))->∃o,H x=ς o:=λj b u x h1 h2=>by
  have⟨w,e1,e2⟩:=W.has j _ h1;have⟨y,o,rfl,Y,_⟩:=RelW.there e2;rw[h2]at e1;cases e1
  exact⟨o,Y⟩
 refine⟨en.ad,by simp[hl],λj c' h=>?_,λj u x h h'=>?_,λj k u w b x Z h1 h2 h3 h4=>?_⟩
 .rcases aA h with ⟨rfl,e⟩|⟨O,h⟩
  .cases e;refine⟨v,?_,r⟩;have hi:i<δ.length:=by have:=ai h;simpa using this
   rw[qe0 Θ]
  .have⟨w,e1,e2⟩:=en.has j c' h;exact⟨w,by rw[gN O];exact e1,e2⟩
 .rcases aA h with ⟨rfl,e⟩|⟨O,h⟩
  .cases e;rcases aA h' with ⟨_,e'⟩|⟨z,_⟩
   .cases e';exact W.ad.hs x (hn u rfl x rfl)
   .exact absurd rfl z
  .rw[gN O]at h';exact en.nw j u x h h'
 .rcases aA h1 with ⟨rfl,e⟩|⟨O,h1'⟩
  .cases e;rcases aA h2 with ⟨z,_⟩|⟨_,h2⟩
   .exact Z z
   .rw[gN Z]at h4;rcases aA h3 with ⟨_,e'⟩|⟨z,_⟩
    .cases e';have⟨o,Y⟩:=U k b w x h2 h4;rw[hn u rfl x rfl]at Y;cases Y
    .exact absurd rfl z
  .rw[gN O]at h3;rcases aA h2 with ⟨rfl,e⟩|⟨hne2,h2⟩
   .cases e;rcases aA h4 with ⟨_,e'⟩|⟨z,_⟩
    .cases e';cases b with
     |false=>cases hk
     |true=>have⟨o,Y⟩:=U j θ u x h1' h3;rw[hn w rfl x rfl]at Y;cases Y
    .exact absurd rfl z
   .rw[gN hne2]at h4;exact en.dis j k u w b x Z h1' h2 h3 h4
theorem Ge.poke(en:Ge G Φ δ ch σ F H ρ){o:HO}(h:δ[i]?=ς (ς (.own θ t)))(W:σ[i]?=ς (ς (.ref a)))(ht:t'.own=θ)(ho:Own G.K F (upd H a o) t' (.ref a) (· = a)):Ge G Φ (δ.set i (ς (.own θ t'))) ch σ F (upd H a o) ρ:=by
 have⟨w,Y,e2⟩:=en.has i _ h;rw[W]at Y;cases Y
 have⟨a',e,_,_,hF,hp⟩:=id e2;cases e;have hΦ:=en.nw i t a h W;have adv:Adv G F H ρ ch F (upd H a o) ρ ch->True:=λ_=>trivial
 have fh:Same F (upd H a o):=λb x e=>by rw[af λq=>by rw[q,hF]at e;cases e];exact en.gh.fh b x e
 have gh:Gh G F (upd H a o) ρ ch:=⟨fh,en.gh.inj,en.gh.out,λj x hx=>(en.gh.ok j x hx).mono (Same.refl _) (λ_ _=>rfl) (nL _) λy hy=>by rw[af (hp j (ai hx))];exact hy⟩;refine⟨⟨gh,en.ad.len,en.ad.ext,en.ad.fr,λb x h1 h2=>?_,en.ad.old,en.ad.nw,λb h=>?_⟩,by simp[en.len],λj c h1=>?_,λj u x h1 h2=>?_,λj k u w b x O h1 h2 Z h4=>?_⟩
 .rw[af λq=>by rw[q,hΦ]at h1;cases h1];exact en.ad.prot b x h1 h2
 .by_cases q:b=a
  .subst q;rw[ac]at h;cases h
  .rw[af q]at h;exact en.ad.hs b h
 .rcases aA h1 with ⟨rfl,e⟩|⟨U,h1⟩
  .cases e;exact⟨.ref a,W,a,rfl,ht,ho,hF,hp⟩
  .have⟨w,Y,e3⟩:=en.has j c h1;refine⟨w,Y,?_⟩;cases c with
   |own b u=>
    have⟨x,e,hu,hw,r1,r2⟩:=id e3;subst e;have hxa:x≠a:=λz=>by subst z;exact en.dis i j t u b x U h h1 W Y
    exact⟨x,rfl,hu,Own.step (Same.refl _) (λy o e h=>by cases e;rw[af hxa];exact h) hw,r1,r2⟩
   |_=>exact e3
 .rcases aA h1 with ⟨rfl,e⟩|⟨U,h1⟩
  .rw[W]at h2;cases h2;exact hΦ
  .exact en.nw j u x h1 h2
 .rcases aA h1 with ⟨rfl,e⟩|⟨U,h1⟩
  .rcases aA h2 with ⟨z,_⟩|⟨_,h2⟩
   .exact O z
   .exact en.dis i k t w b x O h h2 Z h4
  .rcases aA h2 with ⟨rfl,e⟩|⟨_,h2⟩
   .exact en.dis j i u t θ x O h1 h Z h4
   .exact en.dis j k u w b x O h1 h2 Z h4
theorem Ge.frz(en:Ge G Φ δ ch σ F H ρ)(h:δ[i]?=ς (ς (.own θ t)))(hd:t.d=ς d):∃F',Ge G Φ (δ.set i (ς (.g d))) ch σ F' H ρ:=by
 have⟨w,e1,e2⟩:=en.has i _ h;have⟨a,rfl,ht,ho,hF,hp⟩:=id e2;have hΦ:=en.nw i t a h e1;have W:Same F (j9 F H (· = a)):=kf λb z=>by cases z;exact hF
 have U:∀b,b≠a->j9 F H (· = a) b=F b:=λb hb=>et hb
 have gh:Gh G (j9 F H (· = a)) H ρ ch:=⟨oJ en.gh.fh,en.gh.inj,λj x Y hl=>by rw[U _ (hp j (ai Y))];exact en.gh.out j x Y hl,λj x Y=>(en.gh.ok j x Y).mono W (λ_ _=>rfl) (nL _) λ_ h=>h⟩;refine⟨_,⟨gh,en.ad.len,en.ad.ext,en.ad.fr,en.ad.prot,en.ad.old.trans W,λb o z=>?_,en.ad.hs⟩,by simp[en.len],λj c h1=>?_,λj u x h1 h2=>?_,λj k u w b x hjk h1 h2 h3 h4=>?_⟩
 .by_cases hb:b=a
  .subst hb;exact .inr (.inl hΦ)
  .rw[U b hb]at z;exact en.ad.nw b o z
 .rcases aA h1 with ⟨rfl,e⟩|⟨O,h1⟩
  .cases e;exact⟨_,e1,Own.freeze (λb z=>by cases z;exact hF) ho hd⟩
  .have⟨w,q1,q2⟩:=en.has j c h1;refine⟨w,q1,?_⟩;cases c with
   |own b u=>
    have⟨x,e,hu,hw,r1,r2⟩:=id q2;subst e;have Z:x≠a:=λz=>by subst z;exact en.dis i j t u b x O h h1 e1 q1
    exact⟨x,rfl,hu,Own.step W (λ_ _ _ h=>h) hw,by rw[U x Z];exact r1,r2⟩
   |g d=>exact Rep.same W q2
   |ref k=>exact q2
   |fn x F0=>exact⟨q2.1,q2.2.trans W⟩
 .rcases aA h1 with ⟨rfl,e⟩|⟨O,h1⟩
  .cases e
  .exact en.nw j u x h1 h2
 .rcases aA h1 with ⟨rfl,e⟩|⟨O,h1⟩
  .cases e
  .rcases aA h2 with ⟨rfl,e⟩|⟨_,h2⟩
   .cases e
   .exact en.dis j k u w b x hjk h1 h2 h3 h4
end
inductive Og where
 |nx (δ:Sl) (ch:CH)|rt (c:CV) (ch:CH)|bk (δ:Sl) (ch:CH)|ct (δ:Sl) (ch:CH)
def PostZ(G:Gx)(Φ:Fr0)(D:Ends):Og->Prop
 |.nx δ ch=>∀ σ F H ρ,Ge G Φ δ ch σ F H ρ->D.nx σ H
 |.bk δ ch=>∀ σ F H ρ,Ge G Φ δ ch σ F H ρ->D.bk σ H
 |.ct δ ch=>∀ σ F H ρ,Ge G Φ δ ch σ F H ρ->D.ct σ H
 |.rt c ch=>∀v F H ρ,Adv G Φ.F Φ.H Φ.ρ Φ.ch F H ρ ch->RelS G F ρ ch.length c v->D.rt v H
abbrev Fs:=Sl->CH->ζ Og
def tZ(G:Gx)(g:Fs):TS:=λD σ H=>∃ Φ δ ch F ρ o,Ge G Φ δ ch σ F H ρ/\g δ ch=ς o/\PostZ G Φ D o
def GS1(G:Gx)(X:Cx)(st:J6)(g:Fs):Prop:=PS X st (tZ G g)
def GS(G:Gx)(X:Cx)(ss:η J6)(g:Fs):Prop:=PSs X ss (tZ G g)
variable{sc:J9}{N:η Str}
section
variable{G:Gx}{X:Cx}{st:J6}{rest a b body:η J6}{g g1 g2:Fs}{e c o tg iter:J8}{es:η J8}{pos pos' apos cpos:Pos}{f fa fe fk:Fg}{tc:FM Bool}{i:Nat}
noncomputable def gr:Fs:=λδ ch=>ς (.nx δ ch)
noncomputable def aZ(g1 g2:Fs):Fs:=λδ ch=>(g1 δ ch).bind λo=>match o with
 |.nx δ' ch'=>g2 δ' ch'
 |o=>ς o
theorem B0:GS G X [] gr:=PSs.mono wI λD σ H O=>by have⟨Φ,δ,ch,F,ρ,o,en,U,k⟩:=O;cases U;exact k σ F H ρ en
theorem xK(h1:GS1 G X st g1)(h2:GS G X rest g2):GS G X (st::rest) (aZ g1 g2):=PSs.mono (sr h1 h2) λD σ H W=>by
 have⟨Φ,δ,ch,F,ρ,o,en,Z,k⟩:=W;have⟨Y,h1,O⟩:=bS Z;refine⟨Φ,δ,ch,F,ρ,Y,en,h1,?_⟩;cases Y with
 |nx δ' ch'=>exact λσ' F' H' ρ' U=>⟨Φ,δ',ch',F',ρ',o,U,O,k⟩
 |bk _ _=>cases O;exact k
 |ct _ _=>cases O;exact k
 |rt _ _=>cases O;exact k
theorem FY:GS1 G X (.Pass pos) gr:=PS.mono wJ λD σ H O=>by have⟨Φ,δ,ch,F,ρ,o,en,U,k⟩:=O;cases U;exact k σ F H ρ en
theorem gs_doc{y j}:GS1 G X (.Expr (.Constant (.str y) j pos) pos') gr:=PS.mono AB λD σ H O=>by have⟨Φ,δ,ch,F,ρ,o,en,U,k⟩:=O;cases U;exact k σ F H ρ en
def sFz(i:Nat)(g:Fs):Fs:=λδ ch=>match δ[i]? with
 |some (ς (.own θ t))=>t.d.bind λd=>g (δ.set i (ς (.g d))) ch
 |_=>ψ
omit x in
theorem B4(h:GS G X rest g):GS G X rest (sFz i g):=PSs.mono h λD σ H Y=>by
 have⟨Φ,δ,ch,F,ρ,o,en,O,k⟩:=Y;unfold sFz at O;rcases O
 rename_i t ht;have⟨d,Z,U⟩:=bS O;have⟨F',W⟩:=en.frz ht Z;exact⟨Φ,_,ch,F',ρ,o,W,U,k⟩
noncomputable def sDr(f:Fg):Fs:=λδ ch=>(f δ ch).map λp=>.nx δ p.2
theorem xL(h:GE G X e f)(hs:qj6 e ψ pos.line X.env=pure ξ):GS1 G X (.Expr e pos) (sDr f):=PS.mono (dq h hs) λD σ H O=>by have⟨Φ,δ,ch,F,ρ,o,en,U,k⟩:=O;have⟨p,h1,e⟩:=mS U;cases e;exact⟨Φ,δ,ch,F,ρ,p.1,p.2,en,h1,λv F' H' ρ' a r=>k σ F' H' ρ' (en.adv a)⟩
def sRt(f:Fg):Fs:=λδ ch=>(f δ ch).bind λp=>if p.1.sol then ς (.rt p.1 p.2)else ψ
omit x in
theorem B5(h:GE G X e f):GS1 G X (.Return (ς e) pos) (sRt f):=PS.mono (AC h) λD σ H U=>by
 have⟨Φ,δ,ch,F,ρ,o,en,Y,k⟩:=U;have⟨p,h1,O⟩:=bS Y;split at O<;>cases O
 rename_i W;exact⟨Φ,δ,ch,F,ρ,p.1,p.2,en,h1,λv F' H' ρ' a r=>k v F' H' ρ' (en.ad.trans a) (r.1.s W)⟩
noncomputable def sRn:Fs:=λ_ ch=>ς (.rt (.g .non) ch)
theorem xM:GS1 G X (.Return ψ pos) sRn:=PS.mono wK λD σ H O=>by have⟨Φ,δ,ch,F,ρ,o,en,U,k⟩:=O;cases U;exact k .non F H ρ en.ad (by show Rep G.K F .non .non;rwa[Rep])
noncomputable def sIf(c:FM Bool)(g1 g2:Fs):Fs:=λδ ch=>(c δ ch).bind λp=>if p.1 then g1 δ p.2 else g2 δ p.2
theorem Ek(hc:GT G X c tc)(h1:GS G X a g1)(h2:GS G X b g2):GS1 G X (.If c a b pos) (sIf tc g1 g2):=PS.mono (DO hc h1 h2) λD σ H U=>by
 have⟨Φ,δ,ch,F,ρ,o,en,W,k⟩:=U;have⟨p,h1,O⟩:=bS W;refine⟨Φ,δ,ch,F,ρ,p.1,p.2,en,h1,λb F' H' ρ' a r=>?_⟩;cases r;cases q:p.1 with
 |true=>rw[q]at O;exact⟨Φ,δ,p.2,F',ρ',o,en.adv a,O,k⟩
 |false=>rw[q]at O;exact⟨Φ,δ,p.2,F',ρ',o,en.adv a,O,k⟩
def iS(i:Nat)(f:Fg):Fs:=λδ ch=>(f δ ch).bind λp=>if p.1.kp then ς (.nx (δ.set i (ς p.1)) p.2)else ψ
omit x in
theorem ux{x:Str}(h:bL sc N i x=θ)(hl:iP sc x=θ)(nd:N.Nodup)(he:GE G X e f)(e1:aY X sc)(e2:X.N=N)(Y:X.fn x=θ\/X.env.scope.names.lookup x=ς .local)
 (hs:qj6 e (ς (.Name x pos')) pos.line X.env=pure ξ):GS1 G X (.Assign [.Name x pos'] e pos) (iS i f):=PS.mono (xl h hl nd he e1 e2 Y hs) λD σ H O=>by
 have⟨Φ,δ,ch,F,ρ,o,en,W,k⟩:=O;have⟨p,h1,U⟩:=bS W;split at U<;>cases U
 rename_i Z;exact⟨Φ,δ,ch,F,ρ,p.1,p.2,en,h1,λv F' H' ρ' a r=>k _ F' H' ρ' (en.put a r.1 r.2 Z i)⟩
end
section
variable{prog:qe3}{w:J5}{A:qk4}{E:Value->qa7->Prop}{s:qa7}{I t:J4}{j:Nat}{vs:Array Value}
theorem nq{y:Value}(Z:s.heap.IsTupleIter I t j)(hv:s.heap.IsTuple t vs)(hy:vs[j]?=ς y)
 (q:∀h',h'.IsTupleIter I t (j+1)->qg9 I s.heap h'->Q y {s with heap:=h'}):wpAny (model prog w) A (qm8 (.ref I)) Q E s:=by
 have⟨oi,U,Y,O⟩:=id Z;have⟨ot,W,_,nt,hdt⟩:=hv;unfold qm8;refine wB (qk6 (name:=qd0 "__next__") Z.typeIs ql5 (qf5 ql5 Z.typeIs qw4 ?_ (qv7 _)));show wpAny _ _ (field (.ref I) 0 >>= _) _ _ s;refine wB (qk2 U O (x:=.ref t) rfl ?_);show wpAny _ _ (if(qb6 t==qh0)=θ then _ else _) _ _ s;rw[if_neg (show ¬ (qb6 t==qh0)=θ by exact qb7)];show wpAny _ _ (field (.ref I) 1 >>= _) _ _ s;refine wB (qk2 U O (x:=.int j 0) rfl ?_);show wpAny _ _ (seqItems? (.ref t) >>= _) _ _ s;refine wB (qy5 W hdt ?_);rwa[ql0,hy];refine qk8 (zd4 U O Ξ (qa2 ⟨y,rfl,qa2 (q _ ?_ (qr1 ..))⟩));exact⟨_,qg1 _ U (Obj.isFreed_of_fields (Obj.data_mapFields O _)),(Obj.cls_mapFields ..).trans Y,by rw[Obj.data_mapFields O];simp[qv3]⟩
theorem qX(hh:A.handled=ψ)(Y:s.heap.IsTupleIter I t j)(hv:s.heap.IsTuple t vs)(hy:vs[j]?=ψ)
 (q:∀h' e,Heap.ExtBut I s.heap h'->(∃o,h'.get? e=ς o/\o.cls=.type "StopIteration")->E (.ref e) {s with heap:=h'}):wpAny (model prog w) A (qm8 (.ref I)) Q E s:=by
 have⟨oi,O,hci,U⟩:=id Y;have⟨ot,W,_,nt,Z⟩:=hv;unfold qm8;refine wB (qk6 (name:=qd0 "__next__") Y.typeIs ql5 (qf5 ql5 Y.typeIs qw4 ?_ (qv7 _)));show wpAny _ _ (field (.ref I) 0 >>= _) _ _ s;refine wB (qk2 O U (x:=.ref t) rfl ?_);show wpAny _ _ (if(qb6 t==qh0)=θ then _ else _) _ _ s;rw[if_neg (show ¬ (qb6 t==qh0)=θ by exact qb7)];show wpAny _ _ (field (.ref I) 1 >>= _) _ _ s;refine wB (qk2 O U (x:=.int j 0) rfl ?_);show wpAny _ _ (seqItems? (.ref t) >>= _) _ _ s;refine wB (qy5 W Z ?_);rwa[ql0,hy];refine qk8 (zf0 (qk8 (zd4 O U Ξ ?_)));show wpAny _ _ (newExc (.type "StopIteration") [] >>= _) _ _ _;refine wB ?_;rwa[newExc,newTuple];refine wB (qf7 ?_ (by first|size_fits|decide));refine qk8 (m:=qy6 _ _) (wpAny_of_eq (a:=qh0) (by first|rfl|(rwa[qy6]<;>rfl)) ?_);refine qf7 ?_ (by first|size_fits|decide);rwa[raiseNew];refine wB (wpAny_handled ?_)
 first|rw[hh]|rw[show A.in1.handled=ψ by exact hh]
 refine wB (qa2 (wpAny_throw ?_));exact q _ _ (((qr1 ..).extBut.push _).push _) ⟨_,qc2 _ rfl,rfl⟩
end
variable{prog:qe3}
theorem lP{w:J5}(W:A.handled=ψ)(I t:J4)(O:t≠I)(vs:Array Value):Draws prog w A I [I,t] vs.size (λi v=>vs[i]?=ς v) (λi h=>h.IsTupleIter I t i/\h.IsTuple t vs) where
 live:=λ_ _ st=>let ⟨o,ho,_⟩:=st.1;⟨o,ho⟩
 frame:=λ_ _ _ st U=>⟨let ⟨o,ho,r⟩:=st.1;⟨o,U I Ξ o ho,r⟩,let ⟨o,ho,r⟩:=st.2;⟨o,U t Ξ o ho,r⟩⟩
 item:=λi s Q E hi st Y=>nq st.1 st.2 (y:=vs[i]) (by simp[hi]) λh' a b=>Y _ h' s.toks (by simp[hi]) ⟨a,let ⟨o,ho,r⟩:=st.2;⟨o,b.extBut _ _ O ho,r⟩⟩ b
 done:=λs Q E st Z=>qX W st.1 st.2 Ξ Z
def SqB(b:Bool)(K:xA9)(H:Hp)(a:J4)(xs:η V):Prop:=match b with
 |true=>SqL K H a xs
 |false=>SqT K H a xs
def ItB(b:Bool)(h:Heap)(I a:J4)(i:Nat):Prop:=match b with
 |true=>h.IsListIter I a i
 |false=>h.IsTupleIter I a i
def CoB(b:Bool)(h:Heap)(a:J4)(vs:Array Value):Prop:=match b with
 |true=>h.IsList a vs
 |false=>h.IsTuple a vs
theorem ItB.obj{b:Bool}{h:Heap}{I:J4}{i:Nat}(x:ItB b h I a i):∃o,h.get? I=ς o/\(o.cls=.type "list_iterator"\/o.cls=.type "tuple_iterator")/\∀v,o.data≠.cell v:=by
 cases b with
 |true=>have⟨o,e,c,d⟩:=x;exact⟨o,e,.inl c,λv z=>by rw[d]at z;cases z⟩
 |false=>have⟨o,e,c,d⟩:=x;exact⟨o,e,.inr c,λv z=>by rw[d]at z;cases z⟩
variable{h':Heap}
theorem ItB.at{b:Bool}{h:Heap}{I:J4}{i:Nat}(x:ItB b h I a i)(k:∀o,h.get? I=ς o->h'.get? I=ς o):ItB b h' I a i:=by
 cases b with
 |true=>have⟨o,e,r⟩:=x;exact⟨o,k o e,r⟩
 |false=>have⟨o,e,r⟩:=x;exact⟨o,k o e,r⟩
theorem CoB.obj{b:Bool}{h:Heap}{vs:Array Value}(x:CoB b h a vs):∃o,h.get? a=ς o/\(o.cls=.type "list"\/o.cls=.type "tuple"):=by
 cases b with
 |true=>have⟨o,e,c,_⟩:=x;exact⟨o,e,.inl c⟩
 |false=>have⟨o,e,c,_⟩:=x;exact⟨o,e,.inr c⟩
theorem zK{x y:String}(h:x≠y):qp4 x≠qp4 y:=λz=>h (by cases z;rfl)
theorem uy{b c:Bool}{h:Heap}{I l:J4}{i:Nat}{vs:Array Value}(x:ItB b h I a i)(y:CoB c h l vs):l≠I:=by have⟨o,W,U,_⟩:=x.obj;have⟨o',e2,O⟩:=y.obj;rintro rfl;rw[W]at e2;cases e2;rcases U with U|U<;>rcases O with O|O<;>rw[U]at O<;>exact absurd O (zK Ω)
variable{t':Nat}{fp:η J4}
section
variable{X:Cx}{J0:η (J4×Obj)}{σ:St}{H:Hp}{s:qa7}{a I:J4}{xs:η V}{b:Bool}
theorem Inv.seqB(J:Inv X J0 σ H s)(h:SqB b X.K H a xs):∃J3:η Value,Vals xs J3/\CoB b s.heap a J3.toArray:=by
 cases b with
 |true=>have⟨J3,r,p,_⟩:=J.list h;exact⟨J3,r,p.isList⟩
 |false=>have⟨J3,r,p,_⟩:=J.tuple h;exact⟨J3,r,p⟩
theorem Inv.seqB_inj{ys:η V}(J:Inv X J0 σ H s)(h:SqB b X.K H a xs)(h':SqB b X.K H a ys):xs=ys:=by
 cases b with
 |true=>exact J.list_inj h h'
 |false=>exact J.tuple_inj h h'
theorem uz{w:J5}(U:A.handled=ψ)(O:a≠I)(vs:Array Value):Draws prog w A I [I,a] vs.size (λi v=>vs[i]?=ς v) (λi h=>ItB b h I a i/\CoB b h a vs):=by
 cases b with
 |true=>exact Draws.list U I a O vs
 |false=>exact lP U I a O vs
theorem Inv.turnedL(J:Inv X J0 σ H s)(k:∀b o,b∉fp->s.heap.get? b=ς o->h'.get? b=ς o)(O:∀b∈fp,dI X J0 H b):Inv X J0 σ H {s with heap:=h',toks:=t'}:=by
 have U:∀b u,H b=ς u->b∉fp:=λb u e z=>by rw[(O b z).1]at e;cases e
 refine J.step (g':=s.gens) (d':=s.drawn) (ch:=fp) (λb hb=>?_) (λb o _ _ hc e _=>k b o hc e) (λb o _ _ hc e _=>⟨o.slots,k b o hc e⟩) (λ_ _ _ _ n=>n)
  (λb o hc e=>⟨o,k b o hc e⟩) (λ_ _ e=>e) (λ_ _ _ e=>e) (λb ps e=>⟨#[],by rw[e];simp⟩) (λ_ _ e=>e) (λm Y=>?_) (λb u e=>?_) J.bare
 .exact⟨(O b hb).2.2.2.1,(O b hb).2.1,(O b hb).2.2.2.2.1,(O b hb).2.2.2.2.2⟩
 .have⟨o,es,ep,W,r⟩:=Y;exact⟨o,es,ep,k _ o (λz=>(O _ z).2.1 rfl) W,r⟩
 .refine(J.hok b u e).stay (λc v hc q=>k c v ?_ q) (λ_ q=>q) (λ_ _ q=>q) λ_ _ _ q=>q
  rcases hc with z|z
  .rw[z];exact U b u e
  .exact U c _ z
end
section
variable{X:Cx}{J0:η (J4×Obj)}{σ:St}{H:Hp}{s:qa7}
theorem Inv.turnedT {t:J4} (J:Inv X J0 σ H s) (k:∀ b o,b∉fp->s.heap.get? b=ς o->h'.get? b=ς o) (U:∀ b∈fp,dI X J0 H b) (Z:s.heap.objs.size<=t) (new:ObjOk X.prog X.w (upd H t u) h' t u) :
  Inv X J0 σ (upd H t u) {s with heap:=h',toks:=t'}:=by
 have W:∀b u,H b=ς u->b∉fp:=λb u e z=>by rw[(U b z).1]at e;cases e
 have hn:H t=ψ:=J.hok.fresh Z;have O:∀b v,H b=ς v->b≠t:=λb v e=>aD e hn
 have Y:∀b o,s.heap.get? b=ς o->b≠t:=λb o e z=>by subst z;exact absurd (qb2 e) (qo2.mpr Z)
 refine J.step (g':=s.gens) (d':=s.drawn) (ch:=fp) (λb hb=>?_) (λb o _ _ hc e _=>k b o hc e) (λb o _ _ hc e _=>⟨o.slots,k b o hc e⟩) (λb o _ e n=>by rw[af (Y b o e)];exact n)
  (λb o hc e=>⟨o,k b o hc e⟩) (λb xs e=>by rw[af (O b _ e)];exact e) (λb o v e=>by rw[af (O b _ e)];exact e) (λb ps e=>⟨#[],by rw[af (O b _ e),e];simp⟩) (λb xs e=>by rw[af (O b _ e)];exact e) (λm hm=>?_) (λb v e=>?_) J.bare
 .exact⟨(U b hb).2.2.2.1,(U b hb).2.1,(U b hb).2.2.2.2.1,(U b hb).2.2.2.2.2⟩
 .have⟨o,es,ep,ho,r⟩:=hm;exact⟨o,es,ep,k _ o (λz=>(U _ z).2.1 rfl) ho,r⟩
 .by_cases hb:b=t
  .subst hb;rw[ac]at e;cases e;exact new
  .rw[af hb]at e;refine(J.hok b v e).stay (λc ob hc q=>k c ob ?_ q) (λc q=>by rw[af (O c _ q)];exact q) (λc ys q=>by rw[af (O c _ q)];exact q) λc ob ys q=>by rw[af (O c _ q)];exact q
   rcases hc with z|z
   .rw[z];exact W b v e
   .exact W c _ z
end
noncomputable def Ite(b:Bool)(K:xA9)(a:J4):It:=⟨λi H=>∃xs x,SqB b K H a xs/\xs[i]?=ς x,λi H x H'=>∃t v,H t=ψ/\x=.ref t/\H'=upd H t (.t [.int i,v])/\∀xs,SqB b K H a xs->xs[i]?=ς v,λi H=>∃xs,SqB b K H a xs/\xs.length=i⟩
variable{P:qe3}
theorem qY {w:J5} {elts:η J8} {n:Nat} {pos:Pos} (b:Bool) (a e I:J4) (Z:e≠I) :
  Turn P w K (.Tuple elts n pos) (Ite b K a) [e,I] e (λi h=>(∃old,IsEnum h e I i old)/\ItB b h I a i) where
 mem:=by simp
 obj:=λi h st c hc=>by
  have⟨⟨old,W⟩,U⟩:=st;rwa[qc3,qq7,or_false]at hc;rcases hc with rfl|rfl
  .exact⟨_,W,λv z=>nomatch z⟩
  .have⟨o,q,_,d⟩:=U.obj;exact⟨o,q,d⟩
 keep:=λi h h' st k=>by have⟨⟨old,W⟩,U⟩:=st;exact⟨⟨old,k e Ξ _ W⟩,U.at λo q=>k I Ξ o q⟩
 item:=by
  intro X hP hw hK hc i J0 s σ H E J hf st hg;subst hP hw hK;have⟨⟨old,W⟩,U⟩:=st;have⟨xs,x,hq,hx⟩:=hg;have⟨J3,rv,co⟩:=J.seqB hq;have⟨u,hu,ru⟩:=rv.get hx;have hi:i<J3.toArray.size:=‹(gX hu).1›
  have hae:e∉[I,a]:=by rwa[qc3,qq7,or_false,not_or];refine⟨Z,λz=>?_⟩;have⟨o,q,c⟩:=co.obj;rw[<- z,W]at q;cases q;rcases c with c|c<;>exact absurd c (zK Ω)
  refine wpAny_pyNext_enum_itemD (uz (A:=X.A.in1) (b:=b) (I:=I) (a:=a) (show X.A.in1.handled=ψ from J.ok.hd hc) (uy U co) J3.toArray) W ⟨U,co⟩ hi Z hae λy h1 tk hy ho hs1 hT hsz hk=>⟨_,rfl,?_⟩
  have ey:y=u:=by rw[show J3.toArray[i]?=J3[i]? by simp,hu]at hy;exact(qd3 hy).symm
  subst ey;refine wpAny_letOwnedTupleGo_enum ho λh2 he2 Y=>?_
  have kk:∀c o,c∉[e,I]->s.heap.get? c=ς o->h2.get? c=ς o:=λc o O q=>by rwa[qc3,qq7,or_false,not_or]at O;exact(Y.2 c O.1).trans (hk c o O.1 O.2 q)
  have lt:∀c∈[e,I],c<s.heap.objs.size:=λc O=>by
   rwa[qc3,qq7,or_false]at O;rcases O with rfl|rfl
   .exact qb2 W
   .have⟨o,q,_⟩:=U.obj;exact qb2 q
  -- first the records,then the pair
  have hT2:h2.get? s.heap.objs.size=ς {cls:=.type "tuple",data:=.seq #[.int i tk,y]}:=(Y.2 _ (λz=>qn6 _ (z▸lt e Ξ))).trans hT
  have J2:Inv X J0 σ (upd H s.heap.objs.size (.t [.int i,x])) {s with heap:=h2,toks:=tk+1}:=by refine J.turnedT kk hf (nL _) ⟨by show 2<=qa5;decide,[.int i tk,y],.cons ⟨_,rfl⟩ (.cons ru .nil),?_⟩;exact .of hT2 rfl rfl rfl
  refine⟨.ref s.heap.objs.size,_,J2,rfl,⟨_,x,J.hok.fresh (qq9 _),rfl,rfl,λys hy=>by rw[J.seqB_inj hy hq];exact hx⟩,⟨⟨_,‹he2›⟩,hs1.1.at λo q=>(Y.2 I (qj5 Z)).trans q⟩,λc O=>?_⟩;rw[af (qc5 (lt c O))];exact(hf c O).1
 done:=by
  intro X hP hw hK hc i J0 s σ H E J hf st hg;subst hP hw hK;have⟨⟨old,W⟩,U⟩:=st;have⟨xs,hq,hx⟩:=hg;have⟨J3,rv,co⟩:=J.seqB hq;have hi:i=J3.toArray.size:=by rw[<- hx];simpa using rv.length
  refine wpAny_pyNext_enum_endD (uz (A:=X.A.in1) (b:=b) (I:=I) (a:=a) (show X.A.in1.handled=ψ from J.ok.hd hc) (uy U co) J3.toArray) W (show ItB b s.heap I a J3.toArray.size/\CoB b s.heap a J3.toArray from⟨hi▸U,co⟩) λh' eb=>⟨rfl,?_⟩
  exact J.turnedL (t':=s.toks) (λc o O q=>eb c o (λz=>O (by simp[z])) q) hf
 self:=λA i s Q E st h=>by have⟨⟨old,W⟩,U⟩:=st;exact wpAny_pyIter_enum W h
omit x in
theorem lQ (t:J4) (vs:Array Value) (n:Nat) (Z:ζ J4) (sl:Array (ζ Value)) :
  Meets (qj8.«enumerate.__new__» ⟨[.type "enumerate",.ref t],[]⟩) (λ_ R s=>s.heap.get? t=ς {cls:=.type "tuple",dict:=Z,data:=.seq vs n,slots:=sl}∧
   R (.ok (.ret (.ref (s.heap.push {cls:=.type "tuple_iterator",data:=.fields #[.ref t,.int 0 0]}).objs.size)))
    {s with heap:=(s.heap.push {cls:=.type "tuple_iterator",data:=.fields #[.ref t,.int 0 0]}).push {cls:=.type "enumerate",data:=.fields #[.none,.bool ξ,.ref s.heap.objs.size,qv3 0,.none,.none]}}):=
 .of_wp λprog w A R s h=>by
  have⟨hp,g,d,Y,os⟩:=s;have⟨O,h⟩:=h;have U:=sub_enumerate;have W:Heap.IsTuple (qa7.heap ⟨hp,g,d,Y,os⟩) t vs:=⟨_,O,rfl,n,rfl⟩;wp_walk using qs0 O;refine wpAny_stack_any λst=>qa2 ?_
  split
  .rename_i c _ _ _ _ _;cases (c==qp4 "enumerate")<;>(wp_walk using qs0 O,qs3 W)<;>exact⟨_,rfl,h⟩
  . (wp_walk using qs0 O,qs3 W)<;>exact⟨_,rfl,h⟩
section
variable{prog:qe3}{w:J5}{A:qk4}{E:Value->qa7->Prop}{s:qa7}
theorem nr{t:J4}{vs:Array Value}(Z:s.heap.IsTuple t vs)
 (h:∀h',IsEnum h' (s.heap.objs.size+1) s.heap.objs.size 0 .none->h'.IsTupleIter s.heap.objs.size t 0->h'.objs.size=s.heap.objs.size+2→
 (∀c u,s.heap.get? c=ς u->h'.get? c=ς u)->Q (.ref (s.heap.objs.size+1)) {s with heap:=h'}) :
  wpAny (model prog w) A (call (.type "enumerate") [.ref t]) Q E s:=by
 have⟨⟨c,dct,Y,sl⟩,hl,hc,n,W⟩:=Z;have hc:c=.type "tuple":=hc;have W:Y=.seq vs n:=W;subst hc W;refine callType_new F.called_enumerate Ω (F.typeCall_enumerate_1 _) (F.newCall_enumerate_1 _) (λobj=>F.args_object_init_2 obj _) F.entry_enumerate_new (lQ t vs n dct sl) ⟨hl,?_⟩;have hz:(s.heap.push {cls:=.type "tuple_iterator",data:=.fields #[.ref t,.int 0 0]}).objs.size=s.heap.objs.size+1:=qo1 ..;have U:((s.heap.push {cls:=.type "tuple_iterator",data:=.fields #[.ref t,.int 0 0]}).push {cls:=.type "enumerate",data:=.fields #[.none,.bool ξ,.ref s.heap.objs.size,qv3 0,.none,.none]}).objs.size=s.heap.objs.size+2:=by rw[qo1,hz]
 rw[hz];have O:=qc2 (s.heap.push {cls:=.type "tuple_iterator",data:=.fields #[.ref t,.int 0 0]}) (o:={cls:=.type "enumerate",data:=.fields #[.none,.bool ξ,.ref s.heap.objs.size,qv3 0,.none,.none]}) rfl;rw[hz]at O;exact⟨⟨_,O,rfl⟩,h _ O ⟨_,gP _ (qc2 _ rfl),rfl,rfl⟩ U λc u z=>gP _ (gP _ z)⟩
theorem nu{b:Bool}{t:J4}{vs:Array Value}(O:CoB b s.heap t vs)
 (h:∀h',IsEnum h' (s.heap.objs.size+1) s.heap.objs.size 0 .none->ItB b h' s.heap.objs.size t 0->h'.objs.size=s.heap.objs.size+2→
 (∀c u,s.heap.get? c=ς u->h'.get? c=ς u)->Q (.ref (s.heap.objs.size+1)) {s with heap:=h'}) :
  wpAny (model prog w) A (call (.type "enumerate") [.ref t]) Q E s:=by
 cases b with
 |true=>exact call_enumerate_list O h
 |false=>exact nr O h
end
section
variable{X:Cx}{x:J8}{p pos tpos:Pos}{sc:J9}{fs:De->ζ (η Dt)}{elts:η J8}{n:Nat}
def El(K:xA9)(ta:TA):TI:=λσ H R=>ta σ H λvs H1=>∃b a xs,vs=[.ref a]/\SqB b K H1 a xs/\R (Ite b K a) H1
theorem xN {ta:TA} (h:aL sc "enumerate"=θ) (hm:X.mg "enumerate"=ψ) (Y:PA X [x] ta) (e1:aY X sc:=by rfl) (hs:qb3 [x] X.env=[(ξ,eval x X.env)]:=by rfl) :
  PI X (.Tuple elts n tpos) (.Call (.Name "enumerate" p) [x] [] pos) (El X.K ta):=by
 intro J0 s σ H R I h';refine Call_ (gV I (glD h e1) hm j4 (qo6 (thn (Y pos J0 s σ H _ I h') λus s1 W=>?_) hs rfl));have⟨vs,H1,U,r1,q1⟩:=W;have⟨b,a,xs,rfl,Z,q⟩:=q1;have⟨u,rfl,ru⟩:=dC r1;cases ru;have⟨J3,rv,co⟩:=U.seqB Z;refine nu co λh2 he hi hz hk=>wpAny_pyIter_enum he ?_
 have I2:Inv X J0 σ H1 {s1 with heap:=h2}:=U.kept (t':=s1.toks) hk;refine⟨s1.heap.objs.size+1,[s1.heap.objs.size+1,s1.heap.objs.size],_,_,H1,rfl,I2,qY b a _ _ (qj7 (qq3 _)),⟨⟨_,he⟩,hi⟩,λc hc=>?_,q⟩
 have O:s1.heap.objs.size<=c:=by
  rwa[qc3,qq7,or_false]at hc;rcases hc with rfl|rfl
  .exact qn7 _
  .exact nL _
 exact U.fpOk O (U.hok.fresh O)
noncomputable def bV(i:Nat):η Dt->η Dt
 |[]=>[]
 |d::r=>.t [.int i,d]::bV (i+1) r
theorem jr:∀(l:η Dt)(i:Nat),(bV i l).length=l.length
 |[],_=>rfl
 |_::r,i=>by simp[bV,jr r]
theorem jt:∀(l:η Dt)(i k:Nat),(bV i l)[k]?=l[k]?.map λd=>.t [.int ((i+k:Nat):Int),d]
 |[],i,k=>by simp[bV]
 |d::r,i,0=>by simp[bV]
 |d::r,i,k+1=>by simp[bV,jt r,Nat.add_assoc,zf5 1]
theorem uA{F:Hp}{d e:Dt}{v w:V}{t:J4}(h:F t=ς (.t [v,w]))(r:Rep K F d v)(O:Rep K F e w):Rep K F (.t [d,e]) (.ref t):=by rwa[Rep,Reps];exact⟨t,_,rfl,SqT.of h,v,[w],rfl,r,w,[],rfl,O,rfl⟩
theorem ju{F:Hp}{b:Bool}(r:Reps K F l xs):ua K F (Ite b K a) (bV 0 l) (λH=>SqB b K H a xs):=λi H F2 O U ff=>by have hl:=r.length;rw[jr];refine⟨λh=>⟨xs,xs[i],O,by simp[show i<xs.length by lia]⟩,λh=>⟨xs,O,Θ⟩,λx H' hi hy=>?_⟩;have⟨t,v,W,rfl,rfl,Y⟩:=hy;have Z:=Y xs O;have⟨d,hd,rd⟩:=r.same_get Z;refine⟨_,upd F2 t (.t [.int i,v]),?_,Step.new U W,uA ac bh ((rd.same ff).same (Same.upd (U.free W)))⟩;rw[jt,hd];simp
end
section
variable{X:Cx}{elt tg iter:J8}{ifs:η J8}{scope:J9}{pos:Pos}{M:η Str}{src:η (ζ Nat)}{wi:TI}{g:TG}{tt:TT}{te:TE}
theorem xO {i:Nat} {y:Str} {py spos:Pos} (hN:X.N.Nodup) (Z:X.N[i]?=ς y) (hx:Loc X.env.scope y) (hf:X.fn y=θ\/X.env.scope.names.lookup y=ς .local)
  (S:CmpScope X.N X.env.scope scope M src) (hc:X.calm=θ) (hi:PI X tg iter wi) (hg:M.Nodup->∀C s H ex,PG (cxC X M scope C s H ex) tg g) (ht:∀C s H ex,PTs (cxC X M scope C s H ex) ifs tt)
  (he:∀C s H ex,PE (cxC X M scope C s H ex) elt te) (hs:∀x,qh6 iter X.env x=pure x)
  (Y:qj6 (.ListComp elt [⟨tg,iter,ifs,0⟩] scope pos) (ς (.Name y py)) spos.line X.env=pure θ) :
  PS X (.Assign [.Name y py] (.ListComp elt [⟨tg,iter,ifs,0⟩] scope pos) spos) (wM (jk src wi g tt te) (ei i)):=by
 intro J0 s σ H D I h;rw[exec_Assign_Name_used _ _ _ _ Y];refine wB (zd9 (wB ?_));show wpAny _ X.A (do let _ <- ze5 (.ListComp elt [⟨tg,iter,ifs,0⟩] scope pos) scope X.env _ (newList []) ξ (eval iter X.env) (ς (za2 (.Name y py) X.env))) _ _ s;refine wB (qo0 (jl (use:=ς (za2 (.Name y py) X.env)) (QQ:=λ_ s'=>∃O H',Inv X J0 O H' s'/\D.nx O H') S hc hi hg ht he hs I h ?_) (λ_ s' hq=>qa2 (qa2 hq)) λ_ _ e=>e);intro Dd C H' s' m IA W hn q;show wpAny _ X.A (za2 (.Name y py) X.env (.ref Dd)) _ _ s';refine wpAny_assign_Name (iZ IA hN Z hx (v:=.ref Dd) rfl (λs2 I2 hsb=>?_) hf);have⟨a,sb,U⟩:=hsb
 have ne:C≠a:=by
  rcases U with rfl|U
  .exact W.2.1
  .exact qj5 (W.2.2.2.2.1 y a U)
 exact⟨m,hn.sameBut sb ne,λh3 sb3=>⟨_,H',I2.but W sb3,q⟩⟩
end
noncomputable def B6(x:Str)(n:Int):Str:=if n<1 then Str.empty else if(n==1||x.length==0)=θ then x else⟨(qb1 n.toNat x.cps).foldl (· ++ ·) #[]⟩
noncomputable def qZ(O:Bool):Dt->Dt->ζ T
 |.bl a,.bl b=>ς (.f (.bl (if O then !decide (a=b)else decide (a=b))))
 |_,_=>ψ
section
variable{X:Cx}
theorem B7:OpR X (qe2 .Is) (λx y H Q=>∃a b,x=.bl a/\y=.bl b/\Q (.bl (decide (a=b))) H):=by intro J0 s σ H x y v u Q I O U h;have⟨a,b,rfl,rfl,q⟩:=h;cases O;cases U;refine wpAny_is_plain rfl (ak I q ?_);cases a<;>cases b<;>rfl
theorem re:OpR X (qe2 .IsNot) (λx y H Q=>∃a b,x=.bl a/\y=.bl b/\Q (.bl (!decide (a=b))) H):=by intro J0 s σ H x y v u Q I O U h;have⟨a,b,rfl,rfl,q⟩:=h;cases O;cases U;refine wpAny_isNot_plain rfl (ak I q ?_);cases a<;>cases b<;>rfl
theorem Eo:R2D K (λx y H Q=>∃a b,x=.bl a/\y=.bl b/\Q (.bl (decide (a=b))) H) (qZ ξ):=by
 intro F H x y vx Z Q t U W Y O k;unfold qZ at O;rcases O
 cases O;cases W;cases Y;exact⟨_,_,rfl,rfl,k.bl U⟩
theorem uC:R2D K (λx y H Q=>∃a b,x=.bl a/\y=.bl b/\Q (.bl (!decide (a=b))) H) (qZ θ):=by
 intro F H x y vx Z Q t U W Y O k;unfold qZ at O;rcases O
 cases O;cases W;cases Y;exact⟨_,_,rfl,rfl,k.bl U⟩
def lT(K:xA9):R2:=λx y H Q=>∃a b ys,x=.ref a/\y=.ref b/\SqT K H a []/\SqT K H b ys/\Q (.ref b) H
theorem xP:OpR X (qi0 .Add) (lT X.K):=by
 intro J0 s σ H x y v u Q I rx ry h;have⟨a,b,ys,rfl,rfl,ha,hb,q⟩:=h;cases rx;cases ry;have⟨J3,r1,p1,_⟩:=I.tuple ha;have⟨W,r2,p2,_⟩:=I.tuple hb;cases r1;have⟨⟨cls,dd,data,sl⟩,ho,hc,n,hd⟩:=id p1;have⟨⟨cls2,dd2,Z,Y⟩,ho2,O,n2,U⟩:=id p2;simp only at hc hd O U;subst hc hd O U
 exact qx3 ⟨_,ho,rfl⟩ ⟨_,ho2,rfl⟩ qu8 qz6 PySem.F.slot_tuple_add PySem.F.entry_tuple_add (PySem.F.args_tuple_add_2 _ _)
  (tuple_addW0 a b #[] W.toArray n n2 dd dd2 sl Y rfl) ⟨ho,ho2,⟨.ref b,H,I,rfl,q⟩⟩
def uD:Dt->Dt->ζ T
 |.t [],.t m=>ς (.f (.t m))
 |.t (d::l),.t (e::m)=>eG (.t (d::l)) (.t (e::m))
 |_,_=>ψ
theorem xQ:OpR X (qi0 .Add) (λx y H Q=>lT X.K x y H Q\/jo X.K x y H Q):=OpR.or xP oO
omit x in
theorem B8:R2D K (λx y H Q=>lT K x y H Q\/jo K x y H Q) uD:=by
 intro F H x y vx vy Q t U Y Z O k;unfold uD at O;rcases O
 .rename_i m;cases O;have⟨a,vs,rfl,h1,h2⟩:=Y;have⟨b,ws,rfl,W,h4⟩:=Z;rwa[Reps]at h2;subst h2;refine .inl ⟨a,b,ws,rfl,rfl,U.tup h1,U.tup W,k.leaf.here U ?_⟩;rwa[Rep];exact⟨b,ws,rfl,W,h4⟩
 .exact .inr (zD F H _ _ vx vy Q t U Y Z O k)
end
noncomputable def gMin:η Dt->ζ T
 |[.int i,.int j]=>ς (.f (.int (if j<i then j else i)))
 |_=>ψ
noncomputable def aB:Key->Dt
 |.inl i=>.int i
 |.inr x=>.str x
theorem xU{F:Hp}(k:Key):Rep K F (aB k) (kV k):=by
 cases k with
 |inl i=>exact bh
 |inr x=>exact eC
def zL(i j:Int):Prop:=0<j/\j<18446744073709551616
theorem uF:OpR X (qi0 .FloorDiv) (gW zL λi j=>.int (i/j)):=opI λi j _ _ _ _ _ hc q=>by
 have h1:(0:Int)<j:=hc.1;have h2:j<18446744073709551616:=hc.2;refine floordiv_int Θ (by rw[qw8 i Θ];exact q) (.inl (PyProof.noPylong_of_log2 ?_));have O:j.natAbs≠0:=by lia
 exact qm2 ((Nat.log2_lt O).mpr (show j.natAbs<2^64 by lia)) Ω
noncomputable def gm:Dt->Dt->ζ T
 |.int i,.int j=>if 0<j/\j<18446744073709551616 then ς (.f (.int (i/j)))else ψ
 |_,_=>ψ
omit x in
theorem B9:R2D K (gW zL λi j=>.int (i/j)) gm:=by
 intro F H x y vx Z Q t U W Y O k;unfold gm at O;rcases O
 split at O
 .rename_i hc;cases O;cases W;cases Y;exact⟨_,_,rfl,rfl,hc,k.int U⟩
 .cases O
inductive Pt where
 |one (i:Nat)|many (is:List Nat)
noncomputable def iT:η Nat->η Dt->Sl->ζ Sl
 |[],[],δ=>ς δ
 |i::is,d::ds,δ=>iT is ds (δ.set i (ς (.g d)))
 |_,_,_=>ψ
def bnd:Pt->Dt->Sl->ζ Sl
 |.one i,d,δ=>ς (δ.set i (ς (.g d)))
 |.many is,.t ds,δ=>iT is ds δ
 |_,_,_=>ψ
noncomputable def Pt.slots:Pt->η Nat
 |.one i=>[i]
 |.many is=>is
def Only(ts:η Nat)(σ O:St):Prop:=O.length=σ.length/\∀j,j∉ts->O[j]?=σ[j]?
def tP(G:Gx)(b:Dt->Sl->ζ Sl)(ts:η Nat):TG:=λv σ H Q=>∃ Φ δ ch F ρ d δ',Ge G Φ δ ch σ F H ρ/\Rep G.K F d v/\b d δ=ς δ'/\∀O,Ge G Φ δ' ch O F H ρ->Only ts σ O->Q O H
def tPs(G:Gx)(b:η Dt->Sl->ζ Sl)(ts:η Nat):TGs:=λvs σ H Q=>∃ Φ δ ch F ρ ds δ',Ge G Φ δ ch σ F H ρ/\Reps G.K F ds vs/\b ds δ=ς δ'/\∀O,Ge G Φ δ' ch O F H ρ->Only ts σ O->Q O H
def GP(G:Gx)(X:Cx)(tg:J8)(p:Pt):Prop:=PG X tg (tP G (bnd p) p.slots)
variable{is:η Nat}
section
variable{G:Gx}{X:Cx}{tg iter e:J8}{es:η J8}{pos:Pos}{i:Nat}
theorem Only.one{v:V}:Only [i] σ (σ.set i (ς v)):=⟨Ξ,λj O=>by rw[qv2 λe=>O (by simp[e])]⟩
theorem Ge.dat{F:Hp}{d:Dt}{v:V}(en:Ge G Φ δ ch σ F H ρ)(r:Rep G.K F d v)(i:Nat):Ge G Φ (δ.set i (ς (.g d))) ch (σ.set i (ς v)) F H ρ:=en.put (.refl en.gh) (c:=.g d) r (λ_ e=>nomatch e) rfl i
theorem Ca(h:PG X tg (ei i)):GP G X tg (.one i):=PG.mono h λv σ H Q O=>by have⟨Φ,δ,ch,F,ρ,d,δ',en,r,U,k⟩:=O;cases U;exact k _ (en.dat r i) .one
theorem xV:PGs X [] (tPs G (iT []) []):=λJ0 s σ H vs us Q I r O=>by
 have⟨Φ,δ,ch,F,ρ,ds,δ',en,U,W,k⟩:=O;cases ds with
 |cons d ds=>cases W
 |nil=>cases W;rwa[Reps]at U;exact wL J0 s σ H vs us Q I r ⟨U,k σ en ⟨rfl,λ_ _=>rfl⟩⟩
theorem uG(h1:PG X e (ei i))(h2:PGs X es (tPs G (iT is) is))(hs:(qi8 (e::es) X.env).map (·.2)=za2 e X.env::(qi8 es X.env).map (·.2)):PGs X (e::es) (tPs G (iT (i::is)) (i::is)):=
 λJ0 s σ H vs us Q I r Y=>by
  have⟨Φ,δ,ch,F,ρ,ds,δ',en,rs,Z,k⟩:=Y;cases ds with
  |nil=>cases Z
  |cons d ds=>
   rwa[Reps]at rs;have⟨v,ws,rfl,r1,r2⟩:=rs;refine sw h1 h2 hs J0 s σ H _ us Q I r ⟨v,ws,rfl,Φ,_,ch,F,ρ,ds,δ',en.dat r1 i,r2,Z,λW O ho=>k W O ⟨?_,λj U=>?_⟩⟩
   .rw[ho.1];simp
   .rwa[qc3,not_or]at U;rw[ho.2 j U.2,gN (qj5 U.1)]
theorem xW{k:Nat}(hK:X.K=G.K)(hc:X.calm=θ)(h:PGs X es (tPs G (iT is) is))(Z:(qi8 es X.env).length=is.length)(W:(qi8 es X.env).findIdx? (·.1)=ψ):GP G X (.Tuple es k pos) (.many is):=PG.mono (AD hc h Z W) λv σ H Q U=>by
 have⟨Φ,δ,ch,F,ρ,d,δ',en,r,O,Y⟩:=U
 have hl:∀(is:η Nat)(ds:η Dt)(δ δ':Sl),iT is ds δ=ς δ'->ds.length=is.length:=by
  intro is;induction is with
  |nil=>intro ds δ δ' h;cases ds<;>first|rfl|cases h
  |cons i is ih=>intro ds δ δ' h;cases ds with
   |nil=>cases h
   |cons d ds=>simp[ih ds _ _ h]
 cases d with
 |t ds=>rwa[Rep]at r;have⟨a,vs,rfl,h1,h2⟩:=r;exact⟨a,vs,rfl,by rw[hK];exact(en.gh.fh.tup h1),by rw[h2.length,hl _ _ _ _ O],Φ,δ,ch,F,ρ,ds,δ',en,h2,O,Y⟩
 |_=>cases O
def tI(G:Gx)(f:FM (η Dt)):TI:=λσ H R=>∃ Φ δ ch F ρ ds ch',Ge G Φ δ ch σ F H ρ/\f δ ch=ς (ds,ch')/\∀J ok F' H' ρ',Adv G F H ρ ch F' H' ρ' ch'->ua G.K F' J ds ok->(∀H2,Same F' H2->ok H2)->R J H'
def GI(G:Gx)(X:Cx)(tg iter:J8)(f:FM (η Dt)):Prop:=PI X tg iter (tI G f)
def iE(f:Fg):FM (η Dt):=λδ ch=>(f δ ch).bind λp=>match p.1 with
 |.g d=>(itD d).map λl=>(l,p.2)
 |_=>ψ
theorem gi_e{l:J8}{f:Fg}(Y:X.K=G.K)(h:GE G X l f):GI G X tg l (iE f):=PI.mono (PI.or (wN h) (AI h)) λσ H R W=>by
 have⟨Φ,δ,ch,F,ρ,ds,ch',en,Z,k⟩:=W;have⟨⟨c,ch1⟩,h1,U⟩:=bS Z;cases c with
 |g d=>
  have⟨l,hl,e⟩:=mS U;cases e;cases d with
  |e l=>cases hl;refine .inl ⟨Φ,δ,ch,F,ρ,_,_,en,h1,λv F' H' ρ' a r=>?_⟩;have r:=r.1;rwa[RelC,RelS,Rep]at r;have⟨x,vs,rfl,O,q2⟩:=r;rw[Y];exact⟨x,rfl,⟨vs,a.gh.fh.seq O⟩,k _ _ F' H' ρ' a (plain_list.walk q2) λH2 s=>s.seq O⟩
  |t l=>cases hl;refine .inr ⟨Φ,δ,ch,F,ρ,_,_,en,h1,λv F' H' ρ' a r=>?_⟩;have r:=r.1;rwa[RelC,RelS,Rep]at r;have⟨x,vs,rfl,O,q2⟩:=r;rw[Y];exact⟨x,rfl,⟨vs,a.gh.fh.tup O⟩,k _ _ F' H' ρ' a (plain_tup.walk q2) λH2 s=>s.tup O⟩
  |_=>cases hl
 |_=>cases U
noncomputable def gp:η CV->ζ (η Int)
 |[]=>ς []
 |.g (.int i)::l=>(gp l).map (i::·)
 |_=>ψ
theorem lU{F:Hp}{n:Nat}:∀{l:η CV}{vs:η V}{is:η Int},RelCs G F H ρ n l vs->gp l=ς is->vs=is.map V.int
 |[],_,_,.nil,h=>by cases h;rfl
 |c::l,_,_,.cons r t,h=>by
  cases c with
  |g d=>
   cases d with
   |int i=>have⟨O,h1,rfl⟩:=mS h;rw[lU t h1];have r:Rep G.K F (.int i) _:=r;rwa[Rep]at r;rw[r];rfl
   |_=>cases h
  |_=>cases h
noncomputable def cU(i:Int):Bool:=decide (-(2^62)<=i)&&decide (i<2^62)
theorem uH{i:Int}(h:cU i=θ):-(2^62)<=i/\i<2^62:=by unfold cU at h;rwa[qa1,decide_eq_true_eq]at h;exact h
def rng:Nat->η Int->ζ (η Dt)
 |1,[j]=>if cU j then ς (ay 0 j.toNat)else ψ
 |_,_=>ψ
def iR(n:Nat)(fs:FM (η CV)):FM (η Dt):=λδ ch=>(fs δ ch).bind λp=>(gp p.1).bind λis=>(rng n is).map λl=>(l,p.2)
section
variable{sc:J9}{p tpos:Pos}{x y z:J8}{fs:FM (η CV)}{elts:η J8}{n:Nat}{f:Fg}
omit x in
theorem rj(h:aL sc "range"=θ)(hm:X.mg "range"=ψ)(Z:GA G X [x] fs)(e1:aY X sc)(hs:qb3 [x] X.env=[(ξ,eval x X.env)]):GI G X tg (.Call (.Name "range" p) [x] [] pos) (iR 1 fs):=PI.mono (na h hm Z e1 hs) λσ H R W=>by
 have⟨Φ,δ,ch,F,ρ,ds,ch',en,hf,k⟩:=W;have⟨q,h1,Y⟩:=bS hf;have⟨is,h2,U⟩:=bS Y;have⟨l,O,e⟩:=mS U;cases e;refine⟨Φ,δ,ch,F,ρ,q.1,q.2,en,h1,λvs F' H' ρ' a r=>?_⟩;have hv:=lU r h2;obtain _|⟨j,_|⟨_,_⟩⟩:=is<;>first|(simp[rng]at O;done)|skip
 .have O:(if cU j then ς (ay 0 j.toNat)else ψ)=ς ds:=O;split at O<;>cases O
  rename_i hb;have:=uH hb;exact⟨j,hv,this.1,this.2,k _ _ F' H' ρ' a (plain_range.walk (Reps.map (λ_=>bh) _)) λ_ _=>trivial⟩
noncomputable def iN(f:Fg):FM (η Dt):=λδ ch=>(f δ ch).bind λp=>match p.1 with
 |.g (.e l)=>ς (bV 0 l,p.2)
 |.g (.t l)=>ς (bV 0 l,p.2)
 |_=>ψ
theorem xY(Y:X.K=G.K)(h:aL sc "enumerate"=θ)(hm:X.mg "enumerate"=ψ)(Z:GE G X x f)(e1:aY X sc)(hs:qb3 [x] X.env=[(ξ,eval x X.env)]):GI G X (.Tuple elts n tpos) (.Call (.Name "enumerate" p) [x] [] pos) (iN f):=PI.mono (xN h hm (bf Z ck hs) e1 hs) λσ H R W=>by
 have⟨Φ,δ,ch,F,ρ,ds,ch',en,hf,k⟩:=W;have⟨⟨c,ch1⟩,h1,O⟩:=bS hf;dsimp only at O;refine⟨Φ,δ,ch,F,ρ,c,ch1,en,h1,λv F' H' ρ' a r=>?_⟩;have r:=r.1;split at O
 .cases O;rwa[RelC,RelS,Rep]at r;have⟨y,vs,rfl,U,q2⟩:=r;rw[Y];exact⟨θ,y,vs,rfl,a.gh.fh.seq U,k _ _ F' H' ρ' a (ju (b:=true) q2) λH2 s=>s.seq U⟩
 .cases O;rwa[RelC,RelS,Rep]at r;have⟨y,vs,rfl,U,q2⟩:=r;rw[Y];exact⟨ξ,y,vs,rfl,a.gh.fh.tup U,k _ _ F' H' ρ' a (ju (b:=false) q2) λH2 s=>s.tup U⟩
 .cases O
end
noncomputable def bM(b:Dt->Sl->ζ Sl)(g:Fs):η Dt->Fs
 |[],δ,ch=>ς (.nx δ ch)
 |d::r,δ,ch=>(b d δ).bind λU=>(g U ch).bind λo=>match o with
  |.nx O ch2=>bM b g r O ch2
  |.ct O ch2=>bM b g r O ch2
  |.bk O ch2=>ς (.nx O ch2)
  |.rt c ch2=>ς (.rt c ch2)
def rA(fi:FM (η Dt))(b:Dt->Sl->ζ Sl)(g:Fs):Fs:=λδ ch=>(fi δ ch).bind λp=>bM b g p.1 δ p.2
noncomputable def Fr0.at(Φ:Fr0)(F1:Hp):Fr0:={Φ with F:=F1}
theorem Adv.back{F0 W F1 F:Hp}{O ρ1:Nat->J4}{U ch1:CH}(a:Adv G F0 W O U F1 H1 ρ1 ch1)(b:Adv G F1 W O U F H ρ ch):Adv G F0 W O U F H ρ ch:={b with old:=a.old.trans b.old,nw:=λx o h=>(b.nw x o h).elim (a.nw x o) .inr}
theorem Ge.at{F1:Hp}(en:Ge G Φ δ ch σ F1 H ρ):Ge G (Φ.at F1) δ ch σ F1 H ρ:={en with ad:={en.ad with old:=Same.refl _,nw:=λ_ _ h=>.inl h}}
theorem Ge.back{δ':Sl}{ch':CH}{O:St}{F1 F:Hp}{ρ':Nat->J4}(en:Ge G Φ δ ch σ F1 H1 ρ)(e:Ge G (Φ.at F1) δ' ch' O F H ρ'):Ge G Φ δ' ch' O F H ρ':={e with ad:=en.ad.back e.ad}
theorem PostZ.at{F1:Hp}{D:Ends}{o:Og}(en:Ge G Φ δ ch σ F1 H ρ)(k:PostZ G Φ D o):PostZ G (Φ.at F1) D o:=by
 cases o with
 |nx δ' ch'=>exact λO F H ρ e=>k O F H ρ (en.back e)
 |bk δ' ch'=>exact λO F H ρ e=>k O F H ρ (en.back e)
 |ct δ' ch'=>exact λO F H ρ e=>k O F H ρ (en.back e)
 |rt c ch'=>exact λv F H ρ a r=>k v F H ρ (en.ad.back a) r
variable{body:η J6}{fi:FM (η Dt)}{g:Fs}{pt:Pt}{c:J8}{tc:FM Bool}
theorem Cb(hp:zb7 (model X.prog X.w) X.A X.env X.xe)(hc:X.calm=θ)(hi:GI G X tg iter fi)(hg:GP G X tg pt)(hb:GS G X body g)(hs:∀x,qh6 iter X.env x=pure x):GS1 G X (.For tg iter body [] pos) (rA fi (bnd pt) g):=PS.mono (AJ hp hc hi hg hb hs) λD σ H hq10=>by
 have⟨Φ0,δ,ch,F,ρ,o,en,hgo,k0⟩:=hq10;have⟨⟨ds,ch1⟩,hd,hgo1⟩:=bS hgo;rw[xk];refine⟨Φ0,δ,ch,F,ρ,ds,ch1,en,hd,λJ ok F1 H1 ρ1 a1 wd ho=>?_⟩;have k:=PostZ.at (en.adv a1) k0;refine ub (n:=ds.length) (λi Y H'=>∃ δ' ch' F' ρ',Ge G (Φ0.at F1) δ' ch' Y F' H' ρ'/\bM (bnd pt) g (ds.drop i) δ' ch'=ς o) ⟨δ,ch1,F1,ρ1,(en.adv a1).at,‹hgo1›⟩ (λi Y H' ⟨δ',ch',F',ρ',O,_⟩=>?_) ?_ ?_
 .have⟨p1,p2,_⟩:=wd i H' F' (ho H' (O.ad.old.trans O.gh.fh)) O.gh.fh O.ad.old;exact⟨p1,p2⟩
 .rintro i x Y H' H'' hi ⟨δ',ch',F',ρ',O,U⟩ hy;have⟨_,_,p3⟩:=wd i H' F' (ho H' (O.ad.old.trans O.gh.fh)) O.gh.fh O.ad.old;have⟨d,F2,hd',st2,rd⟩:=p3 x H'' hi hy;rw[oM hd']at U;have⟨δ1,h1,hgo3⟩:=bS U;have⟨o1,h2,W⟩:=bS hgo3;refine⟨_,δ',ch',F2,ρ',d,δ1,O.adv (.of O.gh st2),rd,h1,λσ1 en1 _=>⟨_,δ1,ch',F2,ρ',o1,en1,h2,?_⟩⟩;cases o1 with
  |nx Z ch2=>exact λσ2 F2 H2 ρ2 en2=>⟨Z,ch2,F2,ρ2,en2,W⟩
  |ct Z ch2=>exact λσ2 F2 H2 ρ2 en2=>⟨Z,ch2,F2,ρ2,en2,W⟩
  |bk Z ch2=>cases W;exact k
  |rt c ch2=>cases W;exact k
 .rintro Y H' ⟨δ',ch',F',ρ',O,U⟩;rw[qq8]at U;cases U;exact k Y F' H' ρ' O
noncomputable def whZ(c:FM Bool)(g:Fs):Nat->Fs
 |0,_,_=>ψ
 |n+1,δ,ch=>(c δ ch).bind λp=>if p.1 then(g δ p.2).bind λo=>match o with
  |.nx O ch2=>whZ c g n O ch2
  |.ct O ch2=>whZ c g n O ch2
  |.bk O ch2=>ς (.nx O ch2)
  |.rt c ch2=>ς (.rt c ch2)else ς (.nx δ p.2)
theorem uI(n:Nat)(hp:zb7 (model X.prog X.w) X.A X.env X.xe)(hc:GT G X c tc)(hb:GS G X body g):GS1 G X (.While c body [] pos) (whZ tc g n):=PS.mono (sC hp hc hb) λD σ H hq12=>by
 have⟨Φ,δ,ch,F,ρ,o,en,hg,k⟩:=hq12;refine⟨λm σ' H'=>∃ δ' ch' F' ρ',Ge G Φ δ' ch' σ' F' H' ρ'/\whZ tc g m δ' ch'=ς o,⟨n,δ,ch,F,ρ,en,hg⟩,?_⟩;rintro m σ' H' ⟨δ',ch',F',ρ',en',hgo⟩;cases m with
 |zero=>cases hgo
 |succ m=>
  have⟨p,hx,U⟩:=bS hgo;refine⟨Φ,δ',ch',F',ρ',p.1,p.2,en',hx,λb F1 H1 ρ1 a1 r=>?_⟩;cases r;cases q:p.1 with
  |true=>
   rw[q,if_pos rfl]at U;rw[if_pos rfl];have⟨o1,h2,W⟩:=bS U;refine⟨λY H2=>∃O ch2 F2 ρ2,Ge G Φ O ch2 Y F2 H2 ρ2/\whZ tc g m O ch2=ς o,λY H2 z=>⟨m,qq3 m,z⟩,Φ,δ',p.2,F1,ρ1,o1,en'.adv a1,h2,?_⟩;cases o1 with
   |nx O ch2=>exact λY F2 H2 ρ2 Z=>⟨O,ch2,F2,ρ2,Z,W⟩
   |ct O ch2=>exact λY F2 H2 ρ2 Z=>⟨O,ch2,F2,ρ2,Z,W⟩
   |bk O ch2=>cases W;exact k
   |rt c ch2=>cases W;exact k
  |false=>rw[q]at U;cases U;exact k σ' F1 H1 ρ1 (en'.adv a1)
end
noncomputable def gC(src:η (ζ Nat))(δ:Sl):Sl:=src.map λo=>(o.bind λj=>(δ[j]?).join).map lent
def aE(b:Dt->Sl->ζ Sl)(ft:FM Bool)(fe:Fg)(δ0:Sl):η Dt->CH->ζ (η CV×CH)
 |[],ch=>ς ([],ch)
 |d::r,ch=>(b d δ0).bind λO=>(ft O ch).bind λp=>if p.1 then(fe O p.2).bind λq=>if q.1.sol then(aE b ft fe δ0 r q.2).map λz=>(q.1::z.1,z.2)else ψ else aE b ft fe δ0 r p.2
def eCo(m:Md)(src:η (ζ Nat))(fi:FM (η Dt))(b:Dt->Sl->ζ Sl)(ft:FM Bool)(fe:Fg):Fg:=λδ ch=>(fi δ ch).bind λp=>(aE b ft fe (gC src δ) p.1 p.2).bind λq=>if q.1.length<=qa5 then finL m q.1 q.2 else ψ
section
variable{G:Gx}{Φ:Fr0}{F H F' H' F1 H1:Hp}{ρ ρ' ρ1:Nat->J4}{ch ch' ch1:CH}{src:η (ζ Nat)}{δ:Sl}{σ:St}{D:J4}{done:η CV}{ys:η V}{m:Md}{Q:VK}
theorem nv{k:Nat}{c:CV}(h:(gC src δ)[k]?=ς (ς c)):∃j c',src[k]?=ς (ς j)/\δ[j]?=ς (ς c')/\c=lent c':=by
 unfold gC at h;rw[qa8]at h;cases e:src[k]? with
 |none=>rw[e]at h;cases h
 |some o=>
  rw[e]at h;cases o with
  |none=>cases h
  |some j=>
   rwa[qa9,qa0,qt5]at h;have⟨c',h1,rfl⟩:=mS h;refine⟨j,c',rfl,?_,rfl⟩;cases q:δ[j]? with
   |none=>rw[q]at h1;cases h1
   |some u=>rw[q]at h1;rwa[qq6]at h1;rw[h1]
theorem RelC.lent{n:Nat}{c:CV}{v:V}(h:RelC G F H ρ n c v):RelC G F H ρ n (lent c) v:=by cases c<;>exact h
theorem lV{c:CV}{t:T}:lent c≠.own θ t:=λe=>by cases c<;>cases e
theorem Ge.comp(en:Ge G Φ δ ch σ F H ρ):Ge G ⟨F,H,ρ,ch⟩ (gC src δ) ch (aI src σ) F H ρ:=⟨.refl en.gh,by simp[gC,aI],λk c h=>by have⟨j,O,h1,h2,rfl⟩:=nv h;have⟨v,U,h4⟩:=en.has j O h2;exact⟨v,xo h1 U,h4.lent⟩,λk t a h=>by have⟨_,_,_,_,e⟩:=nv h;exact absurd e.symm lV,λk j t u b a _ h=>by have⟨_,_,_,_,e⟩:=nv h;exact absurd e.symm lV⟩
structure Bd(G:Gx)(F1 H1:Hp)(ρ1:Nat->J4)(ch1:CH)(D:J4)(F H:Hp)(ρ:Nat->J4)(ch:CH)(done:List CV)(ys:List V):Prop where
 adv:Adv G F1 H1 ρ1 ch1 F H ρ ch
 hD:H D=ς (.e ys)
 fD:F D=ψ
 nD:∀i,i<ch.length->ρ i≠D
 rel:RelSs G F ρ ch.length done ys
theorem Bd.step(b:Bd G F1 H1 ρ1 ch1 D F H ρ ch done ys)(a:Adv G F H ρ ch F' H' ρ' ch'):Bd G F1 H1 ρ1 ch1 D F' H' ρ' ch' done ys:=by
 have w:RelW G F H ρ ch.length (.e []) (.ref D)->True:=λ_=>trivial
 refine⟨b.adv.trans a,a.prot D _ b.hD λi hi=>b.nD i hi,?_,λi hi e=>?_,b.rel.mono a.old a.ext a.len⟩
 .cases q:F' D with
  |none=>rfl
  |some o=>
   rcases a.nw D o q with z|z|⟨xs,z⟩
   .rw[b.fD]at z;cases z
   .rw[b.hD]at z;cases z
   .subst z;have O:=a.gh.fh _ _ q;rw[a.prot D _ b.hD λi hi=>b.nD i hi]at O;cases O
 .by_cases h:i<ch.length
  .rw[a.ext i h]at e;exact b.nD i h e
  .have:=a.fr i (qo2.mp h) hi;rw[e,b.hD]at this;cases this
theorem Bd.more(O:H1 D=ψ)(b:Bd G F1 H1 ρ1 ch1 D F H ρ ch done ys){c:CV}{v:V}(r:RelS G F ρ ch.length c v):Bd G F1 H1 ρ1 ch1 D F (upd H D (.e (ys++[v]))) ρ ch (done++[c]) (ys++[v]) where
 adv:=⟨⟨λx o e=>by
     rw[af λz=>by rw[z,b.fD]at e;cases e];exact b.adv.gh.fh x o e,b.adv.gh.inj,b.adv.gh.out,λi o h=>(b.adv.gh.ok i o h).mono (Same.refl _) (λ_ _=>rfl) (nL _) λu U=>by
     rw[af (b.nD i (ai h))];exact U⟩,b.adv.len,b.adv.ext,b.adv.fr,λx o h1 h2=>by
     rw[af λz=>by rw[z,O]at h1;cases h1];exact b.adv.prot x o h1 h2,b.adv.old,b.adv.nw,λx h=>by
     by_cases z:x=D
     .rw[z,ac]at h;cases h
     .rw[af z]at h;exact b.adv.hs x h⟩
 hD:=ac
 fD:=b.fD
 nD:=b.nD
 rel:=Paired.app b.rel (.cons r .nil)
omit x in
theorem Bd.fin{c:CV}(W:H1 D=ψ)(b:Bd G F1 H1 ρ1 ch1 D F H ρ ch done ys)(U:finL m done ch=ς (c,ch'))(k:KM G RV F1 H1 ρ1 ch1 c ch' Q):Q (.ref D) H:=by
 have place:KM G RV F1 H1 ρ1 ch1 (.ref ch.length) (ch++[.e done]) Q->Q (.ref D) H:=λk=>by
  have lt:∀{i:Nat},i<ch.length->(if i=ch.length then D else ρ i)=ρ i:=λ{i} hi=>if_neg (qc5 hi)
  have g:=b.adv.gh
  have Z:∀i x,(ch++[CO.e done])[i]?=ς x->(i<ch.length/\ch[i]?=ς x)\/(i=ch.length/\x=.e done):=λi x O=>by
   by_cases h1:i<ch.length
   .rw[gL h1]at O;exact .inl ⟨h1,O⟩
   .rw[gR (qo2.mp h1)]at O;have h2:i=ch.length:=by have:=ai O;simp at this;lia
    subst h2;simp at O;exact .inr ⟨rfl,O.symm⟩
  refine k.sol (F':=F) (H':=H) (ρ':=λi=>if i=ch.length then D else ρ i) ⟨⟨g.fh,λi j hi Y e=>?_,λi x O hl=>?_,λi x O=>?_⟩,by have:=b.adv.len;simp;lia,λi hi=>?_,λi h1 h2=>?_,b.adv.prot,b.adv.old,b.adv.nw,b.adv.hs⟩ ⟨Ξ,Ξ⟩
  .rwa[qc4,qb8,qf6]at hi Y;by_cases h1:i=ch.length<;>by_cases h2:j=ch.length
   .rw[h1,h2]
   .rw[if_pos h1,if_neg h2]at e;exact absurd e.symm (b.nD j Θ)
   .rw[if_neg h1,if_pos h2]at e;exact absurd e (b.nD i Θ)
   .rw[if_neg h1,if_neg h2]at e;exact g.inj i j Θ Θ e
  .rcases Z i x O with ⟨h1,h2⟩|⟨h1,h2⟩
   .rw[lt h1];exact g.out i x h2 hl
   .rw[if_pos h1];exact b.fD
  .rwa[qc4,qb8,qf6];rcases Z i x O with ⟨h1,h2⟩|⟨h1,h2⟩
   .rw[lt h1];exact(g.ok i x h2).mono (Same.refl _) (λj Y=>lt Y) (qn7 _) λu hu=>hu
   .subst h1;subst h2;rw[if_pos rfl];exact⟨ys,b.hD,b.rel.mono (Same.refl _) (λj Y=>lt Y) (qn7 _)⟩
  .rw[lt (qc9 hi b.adv.len)];exact b.adv.ext i hi
  .rwa[qc4,qb8,qf6]at h2;by_cases h3:i=ch.length
   .rw[if_pos h3];exact W
   .rw[if_neg h3];exact b.adv.fr i h1 Θ
 unfold finL at U;split at U
 .rename_i ds hd;have rs:=aW hd b.rel;cases m with
  |o=>have e:=cq hd;cases U;rw[<- e]at k;exact place k
  |w=>cases U;exact k _ F H ρ b.adv ⟨⟨D,rfl,rfl,⟨D,ys,rfl,rfl,b.hD,rs⟩,b.fD,b.nD⟩,λ_ _ a e=>by cases e;exact W⟩
  |v=>
   cases U;have ff:Same F (upd F D (.e ys)):=λx o e=>by rw[af λz=>by rw[z,b.fD]at e;cases e];exact e
   refine k.sol (F':=upd F D (.e ys)) (H':=H) (ρ':=ρ) ⟨⟨λx o e=>?_,b.adv.gh.inj,λi x O hl=>?_,λi x O=>(b.adv.gh.ok i x O).mono ff (λ_ _=>rfl) (nL _) λ_ h=>h⟩,b.adv.len,b.adv.ext,b.adv.fr,b.adv.prot,b.adv.old.trans ff,λx o h=>?_,b.adv.hs⟩ ?_
   .by_cases z:x=D
    .subst z;rw[ac]at e;cases e;exact b.hD
    .rw[af z]at e;exact b.adv.gh.fh x o e
   .rw[af (b.nD i (ai O))];exact b.adv.gh.out i x O hl
   .by_cases z:x=D
    .subst z;exact .inr (.inl W)
    .rw[af z]at h;exact b.adv.nw x o h
   .show Rep G.K _ (.e ds) (.ref D);rwa[Rep];exact⟨D,ys,rfl,SqL.of ac,rs.same ff⟩
 .split at U<;>cases U
  exact place k
end
section
variable{G:Gx}{X:Cx}{elt tg iter:J8}{ifs:η J8}{scope:J9}{pos:Pos}{M:η Str}{src:η (ζ Nat)}{fi:FM (η Dt)}{ft:FM Bool}{fe:Fg}{m:Md}{pt:Pt}
omit x in
theorem oU(hts:(pt.slots.all λk=>decide (src[k]?=ς ψ))=θ)(σ:St)(H:Hp)(Q:VK)(h:tM G RV (eCo m src fi (bnd pt) ft fe) σ H Q):jk src (tI G fi) (tP G (bnd pt) pt.slots) (tM G RB ft) (tM G RV fe) σ H Q:=by
 have⟨Φ,δ,ch,F,ρ,c,ch',en,hf,k0⟩:=h;have⟨⟨ds,ch0⟩,hd,hf1⟩:=bS hf;have⟨⟨all,ch2⟩,ha,hf2⟩:=bS hf1;dsimp only at ha hf2;rcases hf2
 rename_i hz;rw[tR];refine⟨Φ,δ,ch,F,ρ,ds,ch0,en,hd,λJ ok F1 H1 ρ1 a1 wd ho D hD=>?_⟩;have en1:=en.adv a1;have k:=k0.adv a1
 have wk:∀{σ2:St},Only pt.slots (aI src σ) σ2->Wk (aI src σ) σ2:=λ{σ2} ho=>by
  refine⟨ho.1.symm,λj v hj=>?_⟩;by_cases hm:j∈pt.slots
  .have hn:src[j]?=ς ψ:=of_decide_eq_true (qc0.mp hts j hm);have⟨i,e,_⟩:=Bv hj;rw[hn]at e;cases e
  .rw[ho.2 j hm];exact hj
 refine qO (n:=ds.length) (λi H=>∃F ρ' c' ys done O,Bd G F1 H1 ρ1 ch0 D F H ρ' c' done ys/\aE (bnd pt) ft fe (gC src δ) (ds.drop i) c'=ς (O,ch2)/\done++O=all) ?_ ?_ ?_ ?_
 .refine⟨F1,ρ1,ch0,[],[],all,⟨.of en1.gh (Step.made en1.gh.fh hD),ac,en1.gh.fh.free hD,λi hi e=>?_,.nil⟩,‹ha›,rfl⟩;have⟨u,hu⟩:=en1.gh.at hi;rw[e,hD]at hu;cases hu
 .rintro i H' ⟨F',ρ',c',ys,done,O,b,_⟩;have⟨p1,p2,_⟩:=wd i H' F' (ho H' (b.adv.old.trans b.adv.gh.fh)) b.adv.gh.fh b.adv.old;exact⟨p1,p2⟩
 .rintro i x H0' H' hi ⟨F0',ρ0,c0,ys,done,O,b0,Z,U⟩ hy0;have⟨_,_,p3⟩:=wd i H0' F0' (ho H0' (b0.adv.old.trans b0.adv.gh.fh)) b0.adv.gh.fh b0.adv.old;have⟨d,F',hd',stw,rd⟩:=p3 x H' hi hy0;have b1:=b0.step (.of b0.adv.gh stw);have en2:=(en1.adv b1.adv).comp (src:=src);rw[oM hd']at Z;have⟨δ1,h1,hgo1⟩:=bS Z;have⟨p,h2,W⟩:=bS hgo1;refine⟨_,_,c0,F',ρ0,d,δ1,en2,rd,h1,λσ2 en3 on=>⟨wk on,_,δ1,c0,F',ρ0,p.1,p.2,en3,h2,λbb F3 H3 ρ3 a3 r3=>?_⟩⟩;cases r3;have b2:=b1.step a3;cases q:p.1 with
  |false=>rw[q]at W;exact⟨F3,ρ3,p.2,ys,done,O,b2,W,U⟩
  |true=>
   rw[q,if_pos rfl]at W;rw[if_pos rfl];have⟨e,h4,Y⟩:=bS W;rcases Y
   rename_i hs;have⟨z,h5,hgo4⟩:=mS Y;cases hgo4;refine⟨_,δ1,p.2,F3,ρ3,e.1,e.2,en3.adv a3,h4,λv F4 H4 ρ4 a4 r4=>?_⟩;have b3:=b2.step a4;refine⟨ys,b3.hD,?_,F4,ρ4,e.2,ys++[v],done++[e.1],z.1,b3.more hD (r4.1.s hs),h5,‹U›⟩;have:done.length<all.length:=by rw[<- U];simp
   rw[b3.rel.length];exact qc9 this hz
 .rintro H' ⟨F',ρ',c',ys,done,O,b,Z,U⟩;rw[qq8]at Z;cases Z;rw[qe5]at U;subst U;exact b.fin hD hf2 k
end
variable{p2:Pos}
section
variable{G:Gx}{X:Cx}{elt tg iter:J8}{ifs:η J8}{scope:J9}{pos spos py apos cpos p:Pos}{M:η Str}{src:η (ζ Nat)}{fi:FM (η Dt)}{ft:FM Bool}{f fa fe fk:Fg}{fs:FM (η CV)}{m:Md}{pt:Pt}{i:Nat}{e o a:J8}{es:η J8}{sc:J9}{x:Str}
noncomputable def tYs:FM Bool:=λ_ ch=>ς (θ,ch)
def GTs(G:Gx)(X:Cx)(ifs:η J8)(f:FM Bool):Prop:=PTs X ifs (tM G RB f)
theorem oV:GTs G X [] tYs:=λJ0 s σ H Q I h=>xh J0 s σ H Q I (h.ret λ_ _ _=>rfl)
theorem oW{c:J8}{f:FM Bool}(h:GT G X c f):GTs G X [c] f:=xi h
theorem xZ (S:CmpScope X.N X.env.scope scope M src) (hc:X.calm=θ) (hi:GI G X tg iter fi) (U:M.Nodup->∀ C s H ex,GP G (cxC X M scope C s H ex) tg pt) (W:∀ C s H ex,GTs G (cxC X M scope C s H ex) ifs ft)
  (he:∀C s H ex,GE G (cxC X M scope C s H ex) elt fe) (O:(pt.slots.all λk=>decide (src[k]?=ς ψ))=θ) (hs:∀x,qh6 iter X.env x=pure x):GE G X (.ListComp elt [⟨tg,iter,ifs,0⟩] scope pos) (eCo m src fi (bnd pt) ft fe):=
 PE.mono (tN S hc hi (λY C s H ex=>U Y C s H ex) (λC s H ex=>W C s H ex) (λC s H ex=>he C s H ex) hs) (oU O)
omit x in
theorem x9(h:bL sc N i x=θ)(hl:iP sc x=θ)(Z:N.Nodup)(e1:aY X sc)(e2:X.N=N)(hf:X.fn x=θ\/X.env.scope.names.lookup x=ς .local)
 (S:CmpScope X.N X.env.scope scope M src) (hc:X.calm=θ) (hi:GI G X tg iter fi) (W:M.Nodup->∀C s H ex,GP G (cxC X M scope C s H ex) tg pt) (ht:∀C s H ex,GTs G (cxC X M scope C s H ex) ifs ft)
 (he:∀C s H ex,GE G (cxC X M scope C s H ex) elt fe) (U:(pt.slots.all λk=>decide (src[k]?=ς ψ))=θ) (hs:∀x,qh6 iter X.env x=pure x)
 (Y:qj6 (.ListComp elt [⟨tg,iter,ifs,0⟩] scope pos) (ς (.Name x py)) spos.line X.env=pure θ):GS1 G X (.Assign [.Name x py] (.ListComp elt [⟨tg,iter,ifs,0⟩] scope pos) spos) (iS i (eCo m src fi (bnd pt) ft fe)):=by
 subst e2;refine PS.mono (xO Z (fM h) (by rw[e1];exact j7 hl) hf S hc hi (λZ C s H ex=>W Z C s H ex) (λC s H ex=>ht C s H ex) (λC s H ex=>he C s H ex) hs Y) λD σ H ⟨Φ,δ,ch,F,ρ,o,en,W,k⟩=>?_
 have⟨p,h1,O⟩:=bS W;split at O<;>cases O
 rename_i hk;exact oU U σ H _ ⟨Φ,δ,ch,F,ρ,p.1,p.2,en,h1,λv F' H' ρ' a r=>k _ F' H' ρ' (en.put a r.1 r.2 hk i)⟩
def fOp:ζ Fg->FM (ζ Int)
 |none=>λ_ ch=>ς (ψ,ch)
 |some f=>λδ ch=>(f δ ch).bind λp=>(bR p.1).map λi=>(ς i,p.2)
def eSl(m:Md)(fa:Fg)(lo hi:ζ Fg):Fg:=λδ ch=>(fa δ ch).bind λp=>(fOp lo δ p.2).bind λq=>(fOp hi δ q.2).bind λr=>(vw r.2 p.1).bind λd=>(gSl d q.1 r.1).bind (fin m r.2)
def RO:RL (ζ Int) (ζ Int):=λ_ _ _ _ _ _ a b=>a=b
theorem ya:PO X ψ (tM G RO (fOp ψ)):=λJ0 s σ H Q I h=>wZ J0 s σ H Q I (h.ret λ_ _ _=>rfl)
theorem yb(h:GE G X e f):PO X (ς e) (tM G RO (fOp (ς f))):=λJ0 s σ H Q I U=>by have⟨Φ,δ,ch,F,ρ,c,ch',en,W,k⟩:=U;exact w6 h J0 s σ H Q I (by have⟨p,h1,O⟩:=bS W;have⟨j,h2,q⟩:=mS O;cases q;exact⟨Φ,δ,ch,F,ρ,p.1,p.2,en,h1,λv F' H' ρ' a r=>⟨j,cu h2 r.1,k _ F' H' ρ' a rfl⟩⟩)
theorem uJ{lo hi:ζ J8}{O U:ζ Fg}(hK:X.K=G.K)(he:GE G X e f)(hl:PO X lo (tM G RO (fOp O)))(hh:PO X hi (tM G RO (fOp U))):GE G X (.Subscript e (.Slice lo hi ψ p2) pos) (eSl m f O U):=PE.mono (sX BC he hl hh) λσ H Q hq3=>by have⟨Φ,δ,ch,F,ρ,c,ch',en,hf,k⟩:=hq3;have⟨p,h1,hf2⟩:=bS hf;have⟨q,h2,hf3⟩:=bS hf2;have⟨r,h3,Z⟩:=bS hf3;have⟨d,h4,hf5⟩:=bS Z;have⟨t,h5,hf6⟩:=bS hf5;refine⟨Φ,δ,ch,F,ρ,_,_,en,h1,λv F1 H1 ρ1 a1 r1=>⟨Φ,δ,_,F1,ρ1,_,_,en.adv a1,h2,λl F2 H2 ρ2 Y r2=>⟨Φ,δ,_,F2,ρ2,_,_,(en.adv a1).adv Y,h3,λu F3 H3 ρ3 W r3=>?_⟩⟩⟩;cases r2;cases r3;rw[hK];exact r_sl W.gh.fh (aO W.gh ((r1.1.adv Y).adv W) h4) h5 (bE W.gh hf6 (((k.adv a1).adv Y).adv W))
def kB(m:Md)(g:η Dt->ζ T):η CV->Fg:=λcs _ ch=>(vws ch cs).bind λds=>(g ds).bind (fin m ch)
def eB(m:Md)(g:η Dt->ζ T)(fs:FM (η CV)):Fg:=λδ ch=>(fs δ ch).bind λp=>kB m g p.1 δ p.2
theorem zM{r:η V->Hp->VK->Prop}{g:η Dt->ζ T}(W:CRD G.K r g){Q:VK}(h:tK G RV (kB m g) σ vs H Q):r vs H Q:=by have⟨Φ,δ,ch,F,ρ,cs,c,ch',en,U,O,k⟩:=h;have⟨ds,h1,O⟩:=bS O;have⟨t,h2,O⟩:=bS O;exact W F H ds vs Q t en.gh.fh (fU en.gh U h1) h2 (bE en.gh O k)
theorem uK{id:String}{r:η V->Hp->VK->Prop}{g:η Dt->ζ T}(h:aL sc x=θ)(hc:CallR X (.builtin id) r)(Z:CRD G.K r g)(hm:X.mg x=ψ)(W:qg0 x=ς (.builtin id))(U:GA G X (e::es) fs)(Y:aY X sc)(he:qb3 (e::es) X.env=(ξ,eval e X.env)::qb3 es X.env)(O:(qi3 pos (qb3 es X.env)).any (·.1)=ξ):GE G X (.Call (.Name x p) (e::es) [] pos) (eB m g fs):=PE.mono (jn h hc hm W U Y he O) λσ H Q h=>(tK.args (k:=kB m g) h).imp λ_ _=>zM Z
theorem uL{Ty:String}{r:η V->Hp->VK->Prop}{g:η Dt->ζ T}(h:aL sc x=θ)(hc:CallR X (.type Ty) r)(Z:CRD G.K r g)(hm:X.mg x=ψ)(W:qg0 x=ς (.type Ty))(U:GA G X (e::es) fs)(Y:aY X sc)(he:qb3 (e::es) X.env=(ξ,eval e X.env)::qb3 es X.env)(O:(qi3 pos (qb3 es X.env)).any (·.1)=ξ):GE G X (.Call (.Name x p) (e::es) [] pos) (eB m g fs):=PE.mono (dM h hc hm W U Y he O) λσ H Q h=>(tK.args (k:=kB m g) h).imp λ_ _=>zM Z
def eIs(c:String)(f:Fg):Fg:=λδ ch=>(f δ ch).bind λp=>(vw p.2 p.1).bind λd=>ς (.g (.bl (cS c d)),p.2)
theorem rB{O:Str}{cs:String}{p1:Pos}(hK:X.K=G.K)(h:aL sc "isinstance"=θ)(W:aL sc O=θ)(hm:X.mg "isinstance"=ψ)(Y:X.mg O=ψ)(hv:qg0 O=ς (.type cs))(hk:kj X.K cs)(ha:GE G X a fa)(e1:aY X sc)
 (he:qb3 [a,.Name O p2] X.env=(ξ,eval a X.env)::qb3 [.Name O p2] X.env) (U:qb3 [.Name O p2] X.env=(ξ,eval (.Name O p2) X.env)::qb3 [] X.env) (Z:(qi3 pos (qb3 [.Name O p2] X.env)).any (·.1)=ξ) :
  GE G X (.Call (.Name "isinstance" p1) [a,.Name O p2] [] pos) (eIs cs fa):=
 PE.mono (jn h np hm iO (bf ha (bf (tW (v:=.ty cs) W Y hv rfl e1) ck U) he) e1 he Z) λσ H Q hq4=>by have⟨Φ,δ,ch,F,ρ,c,ch',en,hf,k⟩:=hq4;have⟨p,hp,hf1⟩:=bS hf;have⟨d,hd,hf2⟩:=bS hf1;cases hf2;exact⟨Φ,δ,ch,F,ρ,p.1,p.2,en,hp,λv F' H' ρ' a r=>⟨v,cs,d,_,rfl,by rw[hK];exact(aO a.gh r.1 hd).rep a.gh.fh,rfl,hk d rfl,k.sol a (by show Rep G.K F' _ _;exact g9)⟩⟩
def eMt(m:Md)(g:Dt->η Dt->ζ T)(fa:Fg)(fs:FM (η CV)):Fg:=λδ ch=>(fa δ ch).bind λp=>match p.1 with
 |.g (.str z)=>(fs δ p.2).bind λq=>(vws q.2 q.1).bind λds=>(g (.str z) ds).bind (fin m q.2)
 |_=>ψ
omit x in
theorem Cc {name:Str} {id:String} {r:V->η V->Hp->VK->Prop} {g:Dt->η Dt->ζ T} (Z:Slot "str" name id) (hty:typeOf (.builtin id)=pure (.type "method_descriptor")) (hm:MtR X id r) (hr:MRD G.K r g) (ho:GE G X o fa) (ha:GA G X (e::es) fs)
  (Y:qj4 o name X.env (eval o X.env)=eval o X.env)
  (hfew:((qi3 cpos (qb3 (e::es) X.env)).all (λx=>!x.1)&&(qp6 cpos (qi9 [] X.env)).all (λx=>x.1.isSome)
   && decide ((e::es).length+([]:η qy0).length+(if([]:η qy0).isEmpty then 0 else 1)<30))=θ)
  (W:(apos.endLine==cpos.line)=θ) (hs:qb3 (e::es) X.env=(ξ,eval e X.env)::qb3 es X.env) (U:(qi3 cpos (qb3 es X.env)).any (·.1)=ξ) :
  GE G X (.Call (.Attribute o name apos) (e::es) [] cpos) (eMt m g fa fs):=PE.mono (lE PySem.F.plainAttrs_str Z hty hm ho ha Y hfew W hs U) λσ H Q hq5=>by
 have⟨Φ,δ,ch,F,ρ,c,ch',en,hf,k⟩:=hq5;have⟨⟨c1,ch1⟩,h1,O⟩:=bS hf;dsimp only at O;rcases O
 rename_i z;have⟨q,h2,hf3⟩:=bS O;have⟨ds,h3,hf4⟩:=bS hf3;have⟨t,h4,hf5⟩:=bS hf4;refine⟨Φ,δ,ch,F,ρ,_,_,en,h1,λv F1 H1 ρ1 a1 r1=>?_⟩;have r1:=r1.1;have rv:v=.str z:=by simpa only[RelC,RelS,Rep] using r1
 subst rv;exact⟨rfl,Φ,δ,_,F1,ρ1,_,_,en.adv a1,h2,λus F2 H2 ρ2 a2 r2=>hr F2 H2 (.str z) _ ds us Q t a2.gh.fh (RepB.of a2.gh.fh eC) (fU a2.gh r2 h3) h4 (bE a2.gh hf5 ((k.adv a1).adv a2))⟩
def eDn(m:Md)(t:Bool):Fg:=λ_ ch=>fin m ch (if t then .dcT []else .dct [])
theorem yc{t:Bool}:GE G X (.Dict [] [] pos) (eDn m t):=by
 cases t with
 |false=>exact PE.mono tD λσ H Q O p hp=>by have⟨Φ,δ,ch,F,ρ,c,ch',en,U,k⟩:=O;exact bE (t:=.dct []) en.gh U k _ _ F (λb=>b=p) (Step.made en.gh.fh hp) ⟨p,[],rfl,rfl,ac,rfl,by simp[Reps]⟩ λb z=>by subst z;exact⟨en.gh.fh.free hp,hp,_,ac,nofun⟩
 |true=>exact PE.mono tE λσ H Q W p hp=>by have⟨Φ,δ,ch,F,ρ,c,ch',en,U,k⟩:=W;exact bE (t:=.dcT []) en.gh U k _ _ F (λb=>b=p) (Step.made en.gh.fh hp) ⟨p,[],rfl,rfl,ac,rfl,by simp[Reps]⟩ λb z=>by subst z;exact⟨en.gh.fh.free hp,hp,_,ac,nofun⟩
def getV(ch:CH)(x:CV)(k:Dt)(z:CV):ζ CV:=match x with
 |.ref i=>match ch[i]? with
  |some (.dK l)=>(cJ k).map λk=>(lkC l k).getD z
  |some (.dT l)=>(isK k).map λk=>(lkC l k).getD z
  |_=>ψ
 |x=>(vw ch x).bind λx=>(bQ x k).map λr=>(r.map .g).getD z
def ib(ch:CH)(x:CV):Bool:=match x with
 |.ref i=>match ch[i]? with
  |some (.dK _)|some (.dT _)=>θ
  |_=>ξ
 |x=>match vw ch x with
  |some (.dct _ _)|some (.dcT _ _)=>θ
  |_=>ξ
def eGt(fa fk fe:Fg):Fg:=λδ ch=>(fa δ ch).bind λp=>if ib p.2 p.1 then(fk δ p.2).bind λq=>(fe δ q.2).bind λr=>(vw r.2 q.1).bind λk=>if r.1.sol then(getV r.2 p.1 k r.1).map λc=>(c,r.2)else ψ else ψ
theorem yd{F:Hp}{c:CV}{v:V}(g:Gh G F H ρ ch)(r:RelC G F H ρ ch.length c v)(h:ib ch c=θ):∃a,v=.ref a/\IsD H a:=by
 have O:∀d,vw ch c=ς d->(match (ς d:ζ Dt)with|some (.dct _ _)|some (.dcT _ _)=>θ|_=>ξ)=θ->∃a,v=.ref a/\IsD H a:=λd Y h=>by
  have W:=aO g r Y;cases d with
  |dct ks l=>have⟨a,J1,e,q,_⟩:=W;exact⟨a,e,.inl ⟨J1,q⟩⟩
  |dcT ks l=>have⟨a,J1,e,q,_⟩:=W;exact⟨a,e,.inr ⟨J1,q⟩⟩
  |_=>cases h
 cases c with
 |ref i=>
  have⟨hi,rfl⟩:=r;cases q:ch[i]? with
  |none=>simp[ib,q]at h
  |some o=>
   have U:=g.ok i o q;cases o with
   |dK l=>have⟨_,J1,e,_⟩:=U;exact⟨_,rfl,.inl ⟨J1,.of e⟩⟩
   |dT l=>have⟨_,J1,e,_⟩:=U;exact⟨_,rfl,.inr ⟨J1,.of e⟩⟩
   |_=>simp[ib,q]at h
 |g d=>exact O d rfl h
 |own b t=>
  cases q:vw ch (.own b t)with
  |none=>simp[ib,q]at h
  |some d=>exact O d q (by rwa[ib]at h;rw[q]at h;exact h)
 |fn _ _=>cases h
theorem ye{F:Hp}{x z c:CV}{k:Dt}{Y:V}(hI:dO G.K=θ)(g:Gh G F H ρ ch)(rx:RelC G F H ρ ch.length x vx)(rk:RepB G.K F H k vk)(rz:RelS G F ρ ch.length z Y)(h:getV ch x k z=ς c):∃a o,vx=.ref a/\DGet H a vk o/\RelS G F ρ ch.length c (o.getD Y):=by
 have U:(vw ch x).bind (λx=>(bQ x k).map λr=>(r.map .g).getD z)=ς c->∃a o,vx=.ref a/\DGet H a vk o/\RelS G F ρ ch.length c (o.getD Y):=λh=>by
  have⟨d,h1,h2⟩:=bS h;have⟨r,O,rfl⟩:=mS h2;have⟨a,o,e,hg,hm⟩:=ia hI g.fh (aO g rx h1) rk O;refine⟨a,o,e,hg,?_⟩;cases r with
  |none=>rw[hm.2 rfl];exact rz
  |some y=>have⟨v,rfl,rv⟩:=hm.1 y rfl;exact rv
 have obj:∀{κ:Type}[DecidableEq κ]{n:Nat}{l:η (κ×CV)}{J1:η (κ×V)}{k:κ},J1.map (·.1)=l.map (·.1)->RelSs G F ρ ch.length (l.map (·.2)) (J1.map (·.2))->RelS G F ρ ch.length ((lkC l k).getD z) ((bp J1 k).getD Y):=λ{κ _ n l J1 k} h2 O=>by
  have lk:=gD (k:=k) h2 O;cases q:lkC l k with
  |none=>rw[q]at lk;rw[lk];exact rz
  |some c=>rw[q]at lk;have⟨v,e,r⟩:=lk;rw[e];exact r
 cases x with
 |ref i=>
  have⟨hi,rfl⟩:=rx;cases q:ch[i]? with
  |none=>simp[getV,q]at h
  |some o=>
   have W:=g.ok i o q;cases o with
   |dK l=>rwa[getV,q]at h;have⟨j,Z,rfl⟩:=mS h;have⟨nd,J1,h1,h2,O⟩:=W;rw[cr rk Z];exact⟨_,_,rfl,DGet.k h1,obj (n:=0) h2 O⟩
   |dT l=>rwa[getV,q]at h;have⟨j,Z,rfl⟩:=mS h;have⟨nd,J1,h1,h2,O⟩:=W;have⟨b,rfl,hb⟩:=hZ hI Z rk;exact⟨_,_,rfl,DGet.t h1 (g.fh _ _ hb),obj (n:=0) h2 O⟩
   |_=>simp[getV,q]at h
 |g d=>exact U h
 |own b t=>exact U h
 |fn _ _=>cases h
omit x in
theorem yf{k:Nat}{ke:J8}(hI:dO G.K=θ)(hr:Room k X.A)(ho:GE G X o fa)(hk:GE G X ke fk)(he:GE G X e fe)(mm:M2 X o "get" apos ke e cpos):GE G X (.Call (.Attribute o "get" apos) [ke,e] [] cpos) (eGt fa fk fe):=PE.mono (tF (jh hr) ho hk he mm) λσ H Q hq8=>by
 have⟨Φ,δ,ch,F,ρ,c,ch',en,hf,k⟩:=hq8;have⟨p,h1,U⟩:=bS hf;rcases U
 rename_i hd;have⟨q,h2,hf3⟩:=bS U;have⟨r,h3,hf4⟩:=bS hf3;have⟨d,h4,O⟩:=bS hf4;rcases O
 rename_i hs;have⟨c',h5,e5⟩:=mS O;cases e5;refine⟨Φ,δ,ch,F,ρ,_,_,en,h1,λv F1 H1 ρ1 Y r1=>?_⟩;have⟨a,ea,da⟩:=yd Y.gh r1.1 hd;refine⟨a,ea,da,Φ,δ,_,F1,ρ1,_,_,en.adv Y,h2,λw F2 H2 ρ2 Z r2=>⟨Φ,δ,_,F2,ρ2,_,_,(en.adv Y).adv Z,h3,λu F3 H3 ρ3 W r3=>?_⟩⟩;have⟨b,o,eb,hg,rc⟩:=ye hI W.gh ((r1.1.adv Z).adv W) (aO W.gh (r2.1.adv W) h4) (r3.1.s hs) h5;rw[ea]at eb;cases eb;exact⟨o,hg,((k.adv Y).adv Z).sol W rc⟩
end
noncomputable def bc{κ:Type}[DecidableEq κ]:η (κ×CV)->κ->CV->η (κ×CV)
 |[],k,c=>[(k,c)]
 |p::l,k,c=>if p.1=k then(p.1,c)::l else p::bc l k c
section
variable{κ:Type}[DecidableEq κ]{k:κ}{c:CV}{v:V}
theorem lW{j:κ}:∀{l:η (κ×CV)},j∈(bc l k c).map (·.1)->j=k\/j∈l.map (·.1)
 |[],h=>by simp[bc]at h;exact .inl h
 |p::l,h=>by
  unfold bc at h;split at h
  .exact .inr ‹h›
  .rcases qc3.mp h with e|h
   .exact .inr (by simp[e])
   .exact(lW h).imp_right (qe7 _)
omit x in
theorem ku:∀{l:η (κ×CV)},(l.map (·.1)).Nodup->((bc l k c).map (·.1)).Nodup
 |[],_=>by simp[bc]
 |p::l,h=>by
  have h':=qc6.mp h;unfold bc;split
  .exact h
  .rename_i O;refine qc6.mpr ⟨λz=>?_,ku h'.2⟩;rcases lW z with e|e
   .exact O e
   .exact h'.1 e
theorem ic {F:Hp} {n:Nat} (r:RelS G F ρ n c v):∀ {l:η (κ×CV)} {J1:η (κ×V)},(l.map (·.1)).Nodup->J1.map (·.1)=l.map (·.1)->RelSs G F ρ n (l.map (·.2)) (J1.map (·.2))→
  (aq J1 k v).map (·.1)=(bc l k c).map (·.1)/\RelSs G F ρ n ((bc l k c).map (·.2)) ((aq J1 k v).map (·.2))
 |[],[],_,_,_=>⟨rfl,.cons r .nil⟩
 |[],q::J1,_,h,_=>by cases h
 |p::l,[],_,h,_=>by cases h
 |p::l,q::J1,nd,h,rs=>by
  rwa[qa3,qs9]at h;have⟨h1,h2⟩:=h;obtain _|⟨r1,r2⟩:=rs;have Y:=qc6.mp nd;by_cases U:p.1=k
  .have W:q.1=k:=h1.trans U
   have O:∀x∈J1,¬ x.1=k:=λx hx e=>Y.1 (by have:x.1∈J1.map (·.1):=List.mem_map_of_mem hx;rw[h2]at this;rw[e,<- U]at this;exact this)
   have e2:aq (q::J1) k v=(q.1,v)::J1:=by
    unfold aq;rw[if_pos (by simp[W])];rwa[qa3,if_pos W,qs9,true_and];have:∀x∈J1,(if x.1=k then(x.1,v)else x)=id x:=λx hx=>if_neg (O x hx)
    rw[qg3 this,List.map_id]
   have e1:bc (p::l) k c=(p.1,c)::l:=by rwa[bc,if_pos U]
   rw[e1,e2];exact⟨by simp[h1,h2],.cons r r2⟩
  .have W:¬ q.1=k:=λz=>U (h1.symm.trans z)
   have e2:aq (q::J1) k v=q::aq J1 k v:=by
    unfold aq;by_cases Z:(J1.any λkv=>decide (kv.1=k))=θ
    .rw[if_pos Z,if_pos (by rwa[qm0,Z,Bool.or_true])];rwa[qa3,if_neg W]
    .rw[if_neg Z,if_neg (by rwa[qm0,decide_eq_false W,ze3];exact Z)];rfl
   have e1:bc (p::l) k c=p::bc l k c:=by rwa[bc,if_neg U]
   have⟨i1,i2⟩:=ic r Y.2 h2 r2;rw[e1,e2];exact⟨by simp[h1,i1],.cons r1 i2⟩
end
def eN(o:CO)(d:Dt)(c:CV):ζ CO:=match o with
 |.e l=>(asI d).bind λj=>(ixN l.length j).map λm=>.e (l.set m c)
 |.dK l=>(cJ d).bind λk=>if l.length<qa5 then ς (.dK (bc l k c))else ψ
 |.dT l=>(isK d).bind λk=>if l.length<qa5 then ς (.dT (bc l k c))else ψ
 |_=>ψ
variable{aop:qq2}
section
variable{G:Gx}{X:Cx}{st:J6}{e c o ik:J8}{es:η J8}{pos pos' apos cpos:Pos}{f fa fe fk:Fg}{fs:FM (η CV)}{i:Nat}{Φ:Fr0}{F H F' H' F1 H1:Hp}{ρ ρ' ρ1:Nat->J4}{δ:Sl}{σ:St}{ch ch' ch1:CH}{D:Ends}
theorem yg{κ:Type}{l:η (κ×CV)}{J1:η (κ×V)}(h:J1.map (·.1)=l.map (·.1)):J1.length=l.length:=by have:=congrArg qj0 h;simpa using this
omit x in
theorem yh {o:CO} {w:CO} {d:Dt} {x:CV} {v:V} {P:Hp->Prop} (hI:dO G.K=θ) (g:Gh G F H ρ ch) (Z:ch[i]?=ς o) (rk:RepB G.K F H d vk) (r:RelS G F ρ ch.length x v) (h:eN o d x=ς w) (k:∀ H',Adv G F H ρ ch F H' ρ (ch.set i w)->P H') :
  sY (.ref (ρ i)) vk v H P\/uq (.ref (ρ i)) vk v H P:=by
 have O:=g.ok i o Z;cases o with
 |e l=>have⟨j,U,h⟩:=bS h;have⟨m,hm,rfl⟩:=mS h;have⟨vs,W,q2⟩:=O;exact .inl ⟨_,vs,j,m,rfl,eM U rk,W,by rw[RelSs.length q2];exact hm,k _ (.put (o:=.e (l.set m x)) g Z trivial ⟨_,ac,Paired.set r m q2⟩)⟩
 |dK l=>
  have⟨j,U,h⟩:=bS h;split at h<;>cases h
  rename_i hz;have⟨Y,J1,W,q2,q3⟩:=O;have⟨z1,z2⟩:=ic (k:=j) r Y q2 q3;rw[cr rk U];exact .inr ⟨_,_,rfl,DPut.k W (by rw[yg q2];exact hz),k _ (.put (o:=.dK (bc l j x)) g Z trivial ⟨ku Y,_,ac,z1,z2⟩)⟩
 |dT l=>
  have⟨j,U,h⟩:=bS h;split at h<;>cases h
  rename_i hz;have⟨Y,J1,W,q2,q3⟩:=O;have⟨z1,z2⟩:=ic (k:=j) r Y q2 q3;have⟨b,rfl,hb⟩:=hZ hI U rk;exact .inr ⟨_,_,rfl,DPut.t W (g.fh _ _ hb) (by rw[yg q2];exact hz),k _ (.put (o:=.dT (bc l j x)) g Z trivial ⟨ku Y,_,ac,z1,z2⟩)⟩
 |_=>cases h
def sPt(fa fk fe:Fg):Fs:=λδ ch=>(fe δ ch).bind λp=>(fa δ p.2).bind λq=>(fk δ q.2).bind λr=>match q.1 with
 |.ref i=>if p.1.sol then(vw r.2 r.1).bind λd=>((r.2[i]?).bind λo=>eN o d p.1).map λo'=>.nx δ (r.2.set i o')else ψ
 |_=>ψ
structure AsS(X:Cx)(o ik e:J8)(pos pos':Pos):Prop where
 hs:qv6 [.Subscript o ik pos'] e pos.line X.env=pure ξ
 hw:ze0 [.Subscript o ik pos'] e X.env=pure ψ
 h1:(qi8 [.Subscript o ik pos'] X.env).map (·.2)=[za2 (.Subscript o ik pos') X.env]
 ha:∀ v,za2 (.Subscript o ik pos') X.env v=(do
     let ov <- qo5 [v] (eval o X.env);let iv <- qo5 [v,ov] (eval ik X.env)
     qx8 pos'
     qo5 [v,ov,iv] (setItem ov iv v)
     release [v,ov,iv] [])
omit x in
theorem Cd{k:Nat}(hI:dO G.K=θ)(hr:Room k X.A)(hx:GE G X o fa)(hk:GE G X ik fk)(he:GE G X e fe)(A:AsS X o ik e pos pos'):GS1 G X (.Assign [.Subscript o ik pos'] e pos) (sPt fa fk fe):=
 PS.mono (mJ he (sx hx hk (PSet.or lA (lL (jh hr))) A.ha) A.hs A.hw A.h1) λD σ H Z=>by
  have⟨Φ,δ,ch,F,ρ,og,en,hg,kk⟩:=Z;have⟨p,h1,hg1⟩:=bS hg;have⟨⟨c2,ch2⟩,h2,Y⟩:=bS hg1;have⟨r,h3,O⟩:=bS Y;dsimp only at h3 O;cases c2 with
  |ref i=>
   dsimp only at O;rcases O
   rename_i hs;have⟨d,h4,hg4⟩:=bS O;have⟨w,h5,e5⟩:=mS hg4;cases e5;have⟨o,ho,h6⟩:=bS h5;refine⟨Φ,δ,ch,F,ρ,_,_,en,h1,λv F1 H1 ρ1 a1 r1=>⟨Φ,δ,_,F1,ρ1,_,_,en.adv a1,h2,λx F2 H2 ρ2 W r2=>⟨Φ,δ,_,F2,ρ2,_,_,(en.adv a1).adv W,h3,λy F3 H3 ρ3 U r3=>?_⟩⟩⟩;have⟨hi,rfl⟩:=(r2.1.adv U);exact yh hI U.gh ho (aO U.gh r3.1 h4) (((r1.1.adv W).adv U).s hs) h6 λH' a4=>kk σ F3 H' ρ3 ((((en.adv a1).adv W).adv U).adv a4)
  |_=>cases O
def yi(t:T)(d x:Dt):ζ T:=match t with
 |.e l=>(asI d).bind λj=>(ixN l.length j).map λm=>.e (l.set m x)
 |.dct l=>(cJ d).bind λk=>if l.length<qa5/\(l.map (·.1)).Nodup then ς (.dct (aG l k x))else ψ
 |.dcT l=>(isK d).bind λk=>if l.length<qa5/\(l.map (·.1)).Nodup then ς (.dcT (aG l k x))else ψ
 |_=>ψ
noncomputable def ownA:CV->ζ T
 |.own θ t=>ς t
 |_=>ψ
noncomputable def cG(δ:Sl)(i:Nat):ζ T:=(δ[i]?).join.bind ownA
theorem lY{t:T}(h:cG δ i=ς t):δ[i]?=ς (ς (.own θ t)):=by
 unfold cG at h;have⟨c,h1,h2⟩:=bS h;cases q:δ[i]? with
 |none=>rw[q]at h1;cases h1
 |some u=>
  rw[q]at h1;rwa[qq6]at h1;subst h1;cases c with
  |own b t'=>cases b<;>cases h2;rfl
  |_=>cases h2
def sPs(i:Nat)(fk fe:Fg):Fs:=λδ ch=>(fe δ ch).bind λp=>(fk δ p.2).bind λr=>match p.1 with
 |.g x=>(vw r.2 r.1).bind λd=>(cG δ i).bind λt=>(yi t d x).map λt'=>.nx (δ.set i (ς (.own θ t'))) r.2
 |_=>ψ
theorem Reps.set{x:Dt}{v:V}(r:Rep K F x v):∀{l:η Dt}{vs:η V}(m:Nat),Reps K F l vs->Reps K F (l.set m x) (vs.set m v)
 |[],vs,m,h=>by rwa[Reps]at h;subst h;simp[Reps]
 |d::l,vs,0,h=>by rwa[Reps]at h;have⟨u,ws,rfl,h1,h2⟩:=h;rwa[List.set_cons_zero,Reps];exact⟨v,ws,rfl,r,h2⟩
 |d::l,vs,m+1,h=>by rwa[Reps]at h;have⟨u,ws,rfl,h1,h2⟩:=h;rwa[List.set_cons_succ,Reps];exact⟨u,_,rfl,h1,Reps.set r m h2⟩
omit x in
theorem yj {t t':T} {d x:Dt} {v:V} {P:Hp->Prop} (hI:dO G.K=θ) (fh:Same F H) (ho:Own G.K F H t (.ref a) (· = a)) (rk:RepB G.K F H d vk) (r:Rep G.K F x v) (h:yi t d x=ς t') (k:∀ o,t'.own=θ->Own G.K F (upd H a o) t' (.ref a) (· = a)->P (upd H a o)) :
  sY (.ref a) vk v H P\/uq (.ref a) vk v H P:=by
 cases t with
 |e l=>have⟨j,O,h⟩:=bS h;have⟨m,hm,rfl⟩:=mS h;have⟨b,vs,e,rfl,U,q2⟩:=ho;exact .inl ⟨_,vs,j,m,rfl,eM O rk,U,by rw[q2.length];exact hm,k _ rfl ⟨_,_,rfl,rfl,ac,Reps.set r m q2⟩⟩
 |dct l=>
  have⟨j,O,h⟩:=bS h;split at h<;>cases h
  rename_i hz;have⟨b,J1,e,rfl,U,q2,W⟩:=ho;have hl:J1.length=l.length:=by have:=congrArg qj0 q2;simpa using this
  have⟨Z,Y⟩:=oR j v J1 l x (by rw[q2];exact hz.2) q2;rw[cr rk O];exact .inr ⟨_,_,rfl,DPut.k U (by rw[hl];exact hz.1),k _ rfl ⟨_,_,rfl,rfl,ac,Z,Y _ _ r W⟩⟩
 |dcT l=>
  have⟨j,O,h⟩:=bS h;split at h<;>cases h
  rename_i hz;have⟨b,J1,e,rfl,U,q2,W⟩:=ho;have hl:J1.length=l.length:=by have:=congrArg qj0 q2;simpa using this
  have⟨Z,Y⟩:=oR j v J1 l x (by rw[q2];exact hz.2) q2;have⟨b,rfl,hb⟩:=hZ hI O rk;exact .inr ⟨_,_,rfl,DPut.t U (fh _ _ hb) (by rw[hl];exact hz.1),k _ rfl ⟨_,_,rfl,rfl,ac,Z,Y _ _ r W⟩⟩
 |_=>cases h
theorem yk{k:Nat}(hI:dO G.K=θ)(hr:Room k X.A)(hx:PE X o (qm i))(hk:GE G X ik fk)(he:GE G X e fe)(A:AsS X o ik e pos pos'):GS1 G X (.Assign [.Subscript o ik pos'] e pos) (sPs i fk fe):=
 PS.mono (mJ he (sx hx hk (PSet.or lA (lL (jh hr))) A.ha) A.hs A.hw A.h1) λD σ H hq2=>by
  have⟨Φ,δ,ch,F,ρ,og,en,hg,kk⟩:=hq2;have⟨⟨c1,ch1⟩,h1,hg1⟩:=bS hg;have⟨r,h3,O⟩:=bS hg1;dsimp only at h3 O;cases c1 with
  |g x=>have⟨d,h4,hg4⟩:=bS O;have⟨t,h5,hg5⟩:=bS hg4;have⟨t',h6,e6⟩:=mS hg5;cases e6;have Y:=lY h5;have⟨w,q1,q2⟩:=en.has i _ Y;have⟨a,rfl,_⟩:=id q2;refine⟨Φ,δ,ch,F,ρ,_,_,en,h1,λv F1 H1 ρ1 a1 r1=>⟨_,q1,Φ,δ,_,F1,ρ1,_,_,en.adv a1,h3,λy F3 H3 ρ3 W r3=>?_⟩⟩;have U:=(en.adv a1).adv W;have⟨w,q3,q4⟩:=U.has i _ Y;rw[q1]at q3;cases q3;have⟨a',e',_,ho,_⟩:=id q4;cases e';exact yj hI W.gh.fh ho (aO W.gh r3.1 h4) (show Rep G.K F3 x v from r1.1.adv W) h6 λo ht Z=>kk σ F3 _ ρ3 (U.poke Y q1 ht Z)
  |_=>cases O
def cV(c f:Nat)(o:CO)(x:CV):ζ CO:=match o with
 |.ins O l=>if O=c/\x.sol=θ/\l.length<1000 then(if f<l.length then ς (.ins c (l.set f x))else if f=l.length then ς (.ins c (l++[x]))else ψ)else ψ
 |_=>ψ
theorem oX{fn:Str}{v:V}:∀{fs:η (Str×V)}{f:Nat},(fs.map (·.1)).Nodup->(fs.map (·.1))[f]?=ς fn->(bj fn v fs).map (·.1)=fs.map (·.1)/\(bj fn v fs).map (·.2)=(fs.map (·.2)).set f v
 |[],f,_,h=>by simp at h
 |(g,x)::fs,0,_,h=>by simp at h;subst h;simp[bj]
 |(g,x)::fs,f+1,O,h=>by
  rwa[qa3,qc6]at O;rwa[qa3,qd2]at h;have U:g≠fn:=λe=>O.1 (by rw[e];exact qa4 h)
  have⟨Y,W⟩:=oX (v:=v) O.2 h;simp[bj,U,Y,W]
theorem lZ{fn:Str}{v:V}:∀{fs:η (Str×V)},fn∉fs.map (·.1)->(bj fn v fs).map (·.1)=fs.map (·.1)++[fn]/\(bj fn v fs).map (·.2)=fs.map (·.2)++[v]
 |[],_=>by simp[bj]
 |(g,x)::fs,h=>by rwa[qa3,qc3,not_or]at h;have⟨U,O⟩:=lZ (v:=v) h.2;simp[bj,qj5 h.1,U,O]
omit x in
theorem oY {c f:Nat} {o w:CO} {x:CV} {v:V} {fn:Str} (hc:jq G c) (hp:G.ct[c]?=ς pn) (U:pn.2[f]?=ς fn) (g:Gh G F H ρ ch) (ho:ch[i]?=ς o) (r:RelS G F ρ ch.length x v) (h:cV c f o x=ς w) :
  ∃C dx fs,ClsAt G.K pn.1 C/\H (ρ i)=ς (.ins C dx fs)/\Cls G.K C/\NoAttr G.K C fn/\fs.length<1000/\Adv G F H ρ ch F (upd H (ρ i) (.ins C dx (bj fn v fs))) ρ (ch.set i w):=by
 cases o with
 |ins c' l=>
  have h:(if c'=c/\x.sol=θ/\l.length<1000 then(if f<l.length then ς (CO.ins c (l.set f x))else if f=l.length then ς (CO.ins c (l++[x]))else ψ)else ψ)=ς w:=h;rcases h
  rename_i hz;have⟨rfl,_,hz⟩:=hz;have⟨p',C',dx,fs,O,h0,ha,h2,h3⟩:=g.ok i _ ho;rw[hp]at O;cases O
  have⟨C,W,hcl,nd,Y⟩:=hc pn hp;have:=W.inj h0;subst this;have hl:fs.length=l.length:=by have:=RelSs.length h3;simpa using this
  have nd':(fs.map (·.1)).Nodup:=by rw[h2];exact nd.sublist (qp7 _ _)
  refine⟨C,dx,fs,W,ha,hcl,Y _ (qa4 U),Θ,?_⟩;split at h
  .rename_i hf;cases h;have Z:(fs.map (·.1))[f]?=ς fn:=by rw[h2,qr8 hf];exact U
   have⟨i1,i2⟩:=oX (v:=v) nd' Z;exact .put g ho trivial ⟨pn,C,dx,_,hp,W,ac,by rw[i1,h2];simp,by rw[i2];exact Paired.set r f h3⟩
  .split at h<;>cases h
   rename_i hf
   have Z:fn∉fs.map (·.1):=by
    rw[h2];intro z;have⟨j,hj,e⟩:=List.mem_iff_getElem.mp z;rw[List.getElem_take]at e;have hj':j<l.length:=by rw[qq4]at hj;lia
    have e1:pn.2[j]?=ς fn:=by rw[<- e];simp
    have:=gU nd e1 U;lia
   have⟨i1,i2⟩:=lZ (v:=v) Z;refine .put g ho trivial ⟨pn,C,dx,_,hp,W,ac,?_,by rw[i2];exact Paired.app h3 (.cons r .nil)⟩;rw[i1,h2,qc4,qb8,qf6,List.take_add_one,<- hf,U];rfl
 |_=>cases h
def sFl(c f:Nat)(fa fe:Fg):Fs:=λδ ch=>(fe δ ch).bind λp=>(fa δ p.2).bind λq=>match q.1 with
 |.ref i=>((q.2[i]?).bind λo=>cV c f o p.1).map λo'=>.nx δ (q.2.set i o')
 |_=>ψ
omit x in
theorem ny{c f:Nat}{o w:CO}{x:CV}(h:cV c f o x=ς w):x.sol=θ:=by
 unfold cV at h;split at h
 .rcases h
  rename_i hz;exact hz.2.1
 .cases h
theorem Ce{c f:Nat}{fn:Str}(hK:X.K=G.K)(hc:jq G c)(hp:G.ct[c]?=ς pn)(hn:pn.2[f]?=ς fn)(h:GE G X o fa)(he:GE G X e fe)(hs:qj6 e (ς (.Attribute o fn pos')) pos.line X.env=pure ξ):GS1 G X (.Assign [.Attribute o fn pos'] e pos) (sFl c f fa fe):=
 PS.mono (A7 h he hs) λD σ H Y=>by
  have⟨Φ,δ,ch,F,ρ,og,en,hg,kk⟩:=Y;have⟨p,h1,W⟩:=bS hg;have⟨⟨c2,ch2⟩,h2,O⟩:=bS W;cases c2 with
  |ref i=>have⟨w,h5,e5⟩:=mS O;cases e5;have⟨o,ho,Z⟩:=bS h5;refine⟨Φ,δ,ch,F,ρ,_,_,en,h1,λv F1 H1 ρ1 a1 r1=>⟨Φ,δ,_,F1,ρ1,_,_,en.adv a1,h2,λx F2 H2 ρ2 U r2=>?_⟩⟩;have⟨hi,rfl⟩:=r2.1;have⟨C,dx,fs,_,q1,q2,q3,q4,a3⟩:=oY hc hp hn U.gh ho ((r1.1.adv U).s (ny Z)) Z;rw[hK];exact⟨_,C,dx,fs,rfl,q1,q2,q3,q4,kk σ F2 _ ρ2 (((en.adv a1).adv U).adv a3)⟩
  |_=>cases O
def sFa(c f:Nat)(op:Int->Int->Int)(fa fe:Fg):Fs:=λδ ch=>(fa δ ch).bind λp=>match p.1 with
 |.ref i=>match p.2[i]? with
  |some (.ins O l)=>if O=c then(l[f]?).bind λx=>(bR x).bind λn=>(fe δ p.2).bind λq=>(bR q.1).bind λm=>((q.2[i]?).bind λo=>cV c f o (.g (.int (op n m)))).map λo'=>.nx δ (q.2.set i o')else ψ
  |_=>ψ
 |_=>ψ
omit x in
theorem rC{c f:Nat}{fn:Str}{op:Int->Int->Int}{tpos:Pos}(hK:X.K=G.K)(hc:jq G c)(hp:G.ct[c]?=ς pn)(hn:pn.2[f]?=ς fn)(ho:InOp X aop (ipI op))(h:GE G X o fa)(he:GE G X e fe):GS1 G X (.AugAssign (.Attribute o fn tpos) aop e pos) (sFa c f op fa fe):=
 PS.mono (qx h he ho) λD σ H Z=>by
  have⟨Φ,δ,ch,F,ρ,og,en,hg,kk⟩:=Z;have⟨⟨c1,ch1⟩,h1,hg1⟩:=bS hg;clear hg;cases c1 with
  |ref i=>
   dsimp only at hg1;rcases hg1
   rename_i c' l ho1;rcases hg1
   rename_i hcc;subst hcc;have⟨x,h2,W⟩:=bS hg1;have⟨n,h3,hg3⟩:=bS W;have⟨q,h4,Y⟩:=bS hg3;have⟨m,h5,hg5⟩:=bS Y;have⟨w,h6,e6⟩:=mS hg5;cases e6;have⟨o2,ho2,h7⟩:=bS h6;refine⟨Φ,δ,ch,F,ρ,_,_,en,h1,λv F1 H1 ρ1 a1 r1=>?_⟩;have⟨hi,rfl⟩:=r1.1;have⟨p',C',dx,fs,O,h0,ha,z2,z3⟩:=a1.gh.ok i _ ho1;rw[hp]at O;cases O
   have⟨C,hC,hcl,nd,hna⟩:=hc pn hp;have:=hC.inj h0;subst this;have⟨u,hu,ru⟩:=Paired.get z3 h2;have hu2:=cu h3 ru.toC (H:=H1);subst hu2;rw[hK];refine⟨_,C,dx,fs,_,rfl,ha,hcl,hna _ (qa4 hn),dP (by rw[z2];exact nd.sublist (qp7 _ _)) (lN z2 h2 hn) hu,Φ,δ,_,F1,ρ1,_,_,en.adv a1,h4,λy F2 H2 ρ2 U r2=>?_⟩;have hy:=cu h5 r2.1;subst hy;refine⟨n,m,rfl,rfl,?_⟩;have hz:ρ2 i=ρ1 i:=U.ext i hi;have⟨C2,dx2,fs2,q0,q1,q2,q3,q4,a3⟩:=oY hc hp hn U.gh ho2 (show RelS G F2 ρ2 _ (.g (.int (op n m))) (.int (op n m))from bh (K:=G.K) (F:=F2)) h7;have:=hC.inj q0;subst this;rw[hz]at q1 a3;exact⟨dx2,fs2,q1,q4,kk σ F2 _ ρ2 (((en.adv a1).adv U).adv a3)⟩
  |_=>cases hg1
def sAu(i:Nat)(op:Int->Int->Int)(fe:Fg):Fs:=λδ ch=>((δ[i]?).join.bind bR).bind λn=>(fe δ ch).bind λq=>(bR q.1).map λm=>.nx (δ.set i (ς (.g (.int (op n m))))) q.2
theorem Cf{x:Str}{op:Int->Int->Int}(h:bL sc N i x=θ)(hl:iP sc x=θ)(nd:N.Nodup)(ho:PIp X aop (ipI op))(he:GE G X e fe)(e1:aY X sc)(e2:X.N=N)(Z:X.fn x=θ\/X.env.scope.names.lookup x=ς .local):GS1 G X (.AugAssign (.Name x pos') aop e pos) (sAu i op fe):=by
 subst e2;refine PS.mono (AF nd (fM h) (by rw[e1];exact j7 hl) he ho Z) λD σ H ⟨Φ,δ,ch,F,ρ,og,en,W,Y⟩=>?_
 have⟨n,h1,U⟩:=bS W;have⟨q,h2,O⟩:=bS U;have⟨m,h3,e3⟩:=mS O;cases e3;have⟨c,h4,h5⟩:=bS h1
 have h6:δ[i]?=ς (ς c):=by
  cases q:δ[i]? with
  |none=>rw[q]at h4;cases h4
  |some u=>rw[q]at h4;rwa[qq6]at h4;rw[h4]
 have⟨v,q1,q2⟩:=en.has i c h6;have:=cu h5 q2;subst this;refine⟨_,q1,Φ,δ,ch,F,ρ,_,_,en,h2,λy F2 H2 ρ2 a2 r2=>?_⟩;have hy:=cu h3 r2.1;subst hy;exact⟨n,m,rfl,rfl,Y _ F2 H2 ρ2 ((en.adv a2).dat bh i)⟩
def sUn(pt:Pt)(fe:Fg):Fs:=λδ ch=>(fe δ ch).bind λp=>match p.1 with
 |.g d=>(bnd pt d δ).map λδ'=>.nx δ' p.2
 |_=>ψ
theorem Cg{pt:Pt}(he:GE G X e fe)(hg:GP G X tg pt)(hs:qv6 [tg] e pos.line X.env=pure ξ)(hw:ze0 [tg] e X.env=pure ψ)(h1:(qi8 [tg] X.env).map (·.2)=[za2 tg X.env]):GS1 G X (.Assign [tg] e pos) (sUn pt fe):=PS.mono (mJ he hg hs hw h1) λD σ H Z=>by
 have⟨Φ,δ,ch,F,ρ,og,en,Y,kk⟩:=Z;have⟨⟨c,ch1⟩,h1,O⟩:=bS Y;cases c with
 |g d=>have⟨δ',h2,e2⟩:=mS O;cases e2;exact⟨Φ,δ,ch,F,ρ,_,_,en,h1,λv F1 H1 ρ1 a1 r1=>⟨Φ,δ,_,F1,ρ1,d,δ',en.adv a1,r1.1,h2,λW U _=>kk W F1 H1 ρ1 U⟩⟩
 |_=>cases O
structure AsM(X:Cx)(o:J8)(m:Str)(apos:Pos)(es:List J8)(cpos:Pos):Prop where
 base:qj4 o m X.env (eval o X.env)=eval o X.env
 few:((qi3 cpos (qb3 es X.env)).all (λx=>!x.1)&&(qp6 cpos (qi9 [] X.env)).all (λx=>x.1.isSome)
     && decide (es.length+([]:List qy0).length+(if([]:List qy0).isEmpty then 0 else 1)<30))=θ
 line:(apos.endLine==cpos.line)=θ
 star:∀e r,es=e::r->qb3 (e::r) X.env=(ξ,eval e X.env)::qb3 r X.env/\(qi3 cpos (qb3 r X.env)).any (·.1)=ξ
noncomputable def cH(ch:CH)(i:Nat):ζ (η CV):=match ch[i]? with
 |some (.e l)=>ς l
 |_=>ψ
theorem bW{l:η CV}(h:cH ch i=ς l):ch[i]?=ς (.e l):=by
 unfold cH at h;split at h<;>cases h
 assumption
def sAp(fa fe:Fg):Fs:=λδ ch=>(fa δ ch).bind λp=>(fe δ p.2).bind λq=>match p.1 with
 |.ref i=>(cH p.2 i).bind λ_=>(cH q.2 i).bind λl=>if l.length<qa5/\q.1.sol=θ then ς (.nx δ (q.2.set i (.e (l++[q.1]))))else ψ
 |_=>ψ
omit x in
theorem rE(hx:GE G X o fa)(he:GE G X e fe)(A:AsM X o "append" apos [e] cpos)(Z:qj6 (.Call (.Attribute o "append" apos) [e] [] cpos) ψ pos.line X.env=pure ξ):GS1 G X (.Expr (.Call (.Attribute o "append" apos) [e] [] cpos) pos) (sAp fa fe):=
 PS.mono (dq (lE PySem.F.plainAttrs_list PySem.F.slot_list_append PySem.F.type_list_append fK hx (bf he ck (A.star _ _ rfl).1) A.base A.few A.line (A.star _ _ rfl).1 (A.star _ _ rfl).2) Z) λD σ H hq7=>by
  have⟨Φ,δ,ch,F,ρ,og,en,hg,k⟩:=hq7;have⟨⟨c1,ch1⟩,h1,hg1⟩:=bS hg;have⟨q,h2,O⟩:=bS hg1;cases c1 with
  |ref i=>
   have⟨l0,h3,hg3⟩:=bS O;have⟨l,h4,U⟩:=bS hg3;split at U<;>cases U
   rename_i hz;refine⟨Φ,δ,ch,F,ρ,_,_,en,h1,λv F1 H1 ρ1 a1 r1=>?_⟩;have⟨Y,q0,_⟩:=a1.gh.ok i _ (bW h3);have⟨hi,rfl⟩:=r1.1;refine⟨.inl ⟨rfl,Y,.inl (.inl q0)⟩,Φ,δ,_,F1,ρ1,_,_,en.adv a1,h2,λw F2 H2 ρ2 W r2=>?_⟩;have⟨vs,q1,q2⟩:=W.gh.ok i _ (bW h4);have hz2:ρ2 i=ρ1 i:=W.ext i hi;have a3:Adv G F2 H2 ρ2 q.2 F2 _ ρ2 _:=.put (o:=.e (l++[q.1])) (u:=.e (vs++[w])) W.gh (bW h4) trivial ⟨_,ac,Paired.app q2 (.cons (r2.1.s hz.2) .nil)⟩;rw[hz2]at q1 a3;exact⟨_,vs,w,rfl,rfl,q1,by rw[RelSs.length q2];exact hz.1,k σ F2 _ ρ2 (((en.adv a1).adv W).adv a3)⟩
  |_=>cases O
noncomputable def sAs(i:Nat)(fe:Fg):Fs:=λδ ch=>(fe δ ch).bind λq=>match q.1,cG δ i with
 |.g d,ς (.e l)=>if l.length<qa5 then ς (.nx (δ.set i (ς (.own θ (.e (l++[d]))))) q.2)else ψ
 |_,_=>ψ
omit x in
theorem nz(hx:PE X o (qm i))(he:GE G X e fe)(A:AsM X o "append" apos [e] cpos)(Y:qj6 (.Call (.Attribute o "append" apos) [e] [] cpos) ψ pos.line X.env=pure ξ):GS1 G X (.Expr (.Call (.Attribute o "append" apos) [e] [] cpos) pos) (sAs i fe):=
 PS.mono (dq (lE PySem.F.plainAttrs_list PySem.F.slot_list_append PySem.F.type_list_append fK hx (bf he ck (A.star _ _ rfl).1) A.base A.few A.line (A.star _ _ rfl).1 (A.star _ _ rfl).2) Y) λD σ H hq8=>by
  have⟨Φ,δ,ch,F,ρ,og,en,hg,k⟩:=hq8;have⟨⟨c1,ch1⟩,h1,hg1⟩:=bS hg;clear hg;cases c1 with
  |g d=>
   dsimp only at hg1;rcases hg1
   rename_i d' l ed ht;cases ed;split at hg1<;>cases hg1
   rename_i hz;have U:=lY ht;have⟨w,Z,q2⟩:=en.has i _ U;have⟨a,rfl,_,⟨_,W,e0,rfl,z1,z2⟩,_⟩:=id q2;refine⟨_,Z,.inl ⟨rfl,W,SqL.of z1⟩,Φ,δ,ch,F,ρ,_,_,en,h1,λv F1 H1 ρ1 a1 r1=>?_⟩;have O:=en.adv a1;have⟨w,q3,q4⟩:=O.has i _ U;rw[Z]at q3;cases q3
   have⟨a',e',_,⟨_,vs,e1,rfl,y1,y2⟩,_⟩:=id q4;cases e';refine⟨_,vs,v,rfl,rfl,y1,by rw[y2.length];exact hz,k σ F1 _ ρ1 (O.poke U Z rfl ⟨_,_,rfl,rfl,ac,y2.append (Reps.one r1.1)⟩)⟩
  |_=>cases hg1
end
def EntB(h:Heap)(d:J4)(kv:η (Value×Value))(ep:Nat):Prop:=∃o es,h.get? d=ς o/\o.ExactDict/\o.data=.dict es ep/\es.toList.map (λe=>(e.key,e.val))=kv
variable{kv:η (Value×Value)}{ep:Nat}
theorem EntB.upTo{h:Heap}{d:J4}(q:EntB h d kv ep)(k:∀o,h.get? d=ς o->h'.get? d=ς o):EntB h' d kv ep:=let ⟨o,es,h1,r⟩:=q;⟨o,es,k o h1,r⟩
theorem EntB.ty{s:qa7}{d:J4}(q:EntB s.heap d kv ep):s.TypeIs (.ref d) "dict":=let ⟨o,_,h1,h2,_⟩:=q;⟨o,h1,h2.1⟩
theorem EntB.lt{h:Heap}{d:J4}(q:EntB h d kv ep):d<h.objs.size:=let ⟨_,_,h1,_⟩:=q;qb2 h1
abbrev iU(h:Heap)(it d:J4)(i n ep:Nat)(x0:Value)(f:Bool)(ok ov:Value):Prop:=h.get? it=ς {cls:=.type "dict_itemiterator",dict:=ψ,data:=.fields #[x0,.bool f,.ref d,.int i 0,.int n 0,.int ep 0,ok,ov],slots:=#[]}
def ItmS(h:Heap)(it d:J4)(i n ep:Nat):Prop:=∃O f ok U,iU h it d i n ep O f ok U/\((O=.none/\f=ξ)\/∃a:J4,O=qv3 a/\a≠it/\∃oa,h.get? a=ς oa)
section
variable{prog:qe3}{w:J5}{A:qk4}{E:Value->qa7->Prop}{s:qa7}{v d it:J4}{kv:η (Value×Value)}{i ep:Nat}
theorem rF(lo:(d==qi7)=ξ)(q:EntB s.heap d kv ep)(k:Q (.ref s.heap.objs.size) {s with heap:=s.heap.push {cls:=.type "dict_items",data:=.fields #[.ref d]}}):wpAny (model prog w) A (call (.builtin "dict.items") [.ref d]) Q E s:=by refine qf5 F.slot_dict_items q.ty F.entry_dict_items ?_ (F.args_dict_items_1 _);unfold qj8.«dict.items»;refine wB ?_;unfold qj8.Dict.noArgs;refine wB (qh7 q.ty ?_);show wpAny _ _ (pure d) _ _ s;refine qa2 ?_;show wpAny _ _ (qo8 d >>= _) _ _ s;unfold qo8;rw[if_neg (by rw[lo];exact qb7)];refine wB (qa2 ?_);exact wB (qf7 (qa2 ⟨_,rfl,k⟩))
theorem rG(O:s.heap.IsItemsView v d)(q:EntB s.heap d kv ep)
 (k:∀h',ItmS h' s.heap.objs.size d 0 kv.length ep->(∀b o,s.heap.get? b=ς o->h'.get? b=ς o)->s.heap.objs.size<h'.objs.size->Q (.ref s.heap.objs.size) {s with heap:=h'}):wpAny (model prog w) A (pyIter (.ref v)) Q E s:=by
 have⟨ov,W,hcv,U⟩:=id O;have⟨o,es,Z,e2,Y,e4⟩:=id q;refine wpAny_pyIter_slot O.typeIs zb1 (qf5 zb1 O.typeIs F.entry_dict_items_iter ?_ (F.args_dict_items_iter_1 _));unfold qj8.«dict_items.__iter__»;refine wB (qa2 (wB ?_));unfold qj8.Dict_items.dictOf;refine wB (qk2 W U (x:=.ref d) rfl (qa2 (wB ?_)));unfold qj8.Dict_items.newIterator;refine wB (qg6 Z Y (wB (qo9 Z Y ?_)));have ez:es.size=kv.length:=by rw[<- e4];simp
 have ow:qo4 "dict_itemiterator"=θ:=by decide
 rwa[ow,if_true]
 refine qf7 (qa2 ⟨_,rfl,"dict_itemiterator",_,⟨_,qc2 _ rfl,rfl⟩,qh4.lookup,?_⟩)
  (by rwa[sizeOk,qr2,qb5,qc4,qb8,qf6,qc1];lia)
 refine k _ ⟨.none,ξ,.none,.none,?_,.inl ⟨rfl,rfl⟩⟩ (λb o e=>gP _ e) (by rw[qo1];exact qq3 _);show(s.heap.push _).get? s.heap.objs.size=_;rw[qc2 _ rfl];simp[qv3,ez,qr2]
theorem rH {U val:Value} {Q:ζ Value->qa7->Prop} (st:ItmS s.heap it d i kv.length ep) (q:EntB s.heap d kv ep) (hx:kv[i]?=ς (U,val))
  (k:∀h',ItmS h' it d (i+1) kv.length ep->h'.get? s.heap.objs.size=ς {cls:=.type "tuple",data:=.seq #[U,val]}->h'.objs.size=s.heap.objs.size+1→
   (∀b o,b≠it->s.heap.get? b=ς o->h'.get? b=ς o)->Q (ς (.ref s.heap.objs.size)) {s with heap:=h'}):wpAny (model prog w) A (za3 (.ref it)) Q E s:=by
 have⟨hp,g,dr,tk,os⟩:=s;have⟨x0,f,ok,ov,hit,ho⟩:=st;have⟨od,es,e1,e2,e3,e4⟩:=id q;have hT:qa7.TypeIs ⟨hp,g,dr,tk,os⟩ (.ref it) "dict_itemiterator":=⟨_,hit,rfl⟩;unfold za3;refine wB (wpAny_attempt (qk6 (name:=qd0 "__next__") hT qh4 (qf5 qh4 hT qu2 ?_ (qt8 _))));refine wB (qa2 (wB (wB ?_)))
 first|refine wB (qj9 hT (qa2 ?_))|refine wB (qm9 hT (qa2 ?_))
 refine wB (wpAny_fieldsOf hit rfl ?_);have ow:qo4 "dict_itemiterator"=θ:=by decide
 rwa[ow,if_true];show wpAny _ _ (if(qb6 d==qh0)=θ then _ else _) _ _ _;rw[if_neg (show ¬ ((qb6 d==qh0)=θ)from qb7)];refine wB (qa2 (wB (qg6 e1 e3 ?_)));have ez:es.size=kv.length:=by rw[<- e4];simp
 rw[if_neg (by rw[ez];simp)];refine wB (qa2 (wB (qo9 e1 e3 ?_)));rw[if_neg Ξ];refine qa2 ?_;have li:i<es.size:=by rw[ez];exact(gX hx).1
 have hkv:es[i].key=U/\es[i].val=val:=by rw[<- e4,qa8,zc2,qy7 li]at hx;have:=qd3 hx;exact⟨congrArg Prod.fst this,congrArg Prod.snd this⟩
 rwa[show ¬ ((i:Int)<0)from by lia,if_false,ql0,qy7 li];refine wB ?_
 first|refine wB (qj9 hT (qa2 ?_))|refine wB (qm9 hT (qa2 ?_))
 refine wB (qt3 hT ?_);show wpAny _ _ (setField (.ref it) 3 (qv3 ((i:Int)+1)) >>= _) _ _ ⟨hp,g,dr,tk,os⟩;refine qk8 (qm3 hit Ξ λh1 he1 hs1=>?_)
 replace hs1:qg9 it hp h1:=hs1
 replace he1:iU h1 it d (i+1) kv.length ep x0 f ok ov:=by
  have e:((i+1:Nat):Int)=(i:Int)+1:=by lia
  unfold iU;rw[e];simpa[qv3] using he1
 have hT1:qa7.TypeIs ⟨h1,g,dr,tk,os⟩ (.ref it) "dict_itemiterator":=⟨_,he1,rfl⟩;refine wB (qj3 (wB (qt3 hT1 (wB (qt3 hT1 ?_)))));show wpAny _ _ (qt1 (.ref it) 6 es[i].key es[i].val) _ _ ⟨h1,g,dr,tk,os⟩;rw[hkv.1,hkv.2];unfold qt1;refine wB (wpAny_newTuple ?_);have Z:iU (h1.push {cls:=.type "tuple",data:=.seq #[U,val]}) it d (i+1) kv.length ep x0 f ok ov:=gP _ he1;generalize hh2:h1.push {cls:=.type "tuple",data:=.seq #[U,val]}=h2 at Z;have hz1:h1.objs.size=hp.objs.size:=hs1.1;have hil:it<hp.objs.size:=qb2 hit;have ht2:h2.get? hp.objs.size=ς {cls:=.type "tuple",data:=.seq #[U,val]}:=by rw[<- hh2,<- hz1];exact qc2 _ rfl
 have hz2:h2.objs.size=hp.objs.size+1:=by rw[<- hh2,qo1,hz1]
 have hk2:∀b o,b≠it->hp.get? b=ς o->h2.get? b=ς o:=λb o hb e=>by rw[<- hh2];exact gP _ (hs1.extBut b o hb e)
 show wpAny _ _ (qr3 (.ref it) >>= _) _ _ ⟨h2,g,dr,tk,os⟩;rw[hz1];clear hh2 he1 hs1 hT1 hz1 h1
 have fin:∀(h3:Heap)(y0:Value)(f':Bool)(ok' ov':Value),iU h3 it d (i+1) kv.length ep y0 f' ok' ov'->(∃a:J4,y0=qv3 a/\a≠it/\∃oa,h2.get? a=ς oa)->qg9 it h2 h3->Q (ς (.ref hp.objs.size)) ⟨h3,g,dr,tk,os⟩:=λh3 y0 f' ok' ov' Y ha O=>by have⟨a,rfl,hai,oa,hoa⟩:=ha;exact k h3 ⟨_,f',ok',ov',Y,.inr ⟨a,rfl,hai,oa,O.extBut a oa hai hoa⟩⟩ (O.extBut _ _ (qj7 hil) ht2) (by show h3.objs.size=hp.objs.size+1;rw[O.1,hz2]) λb o hb e=>O.extBut b o hb (hk2 b o hb e)
 refine wB ?_;unfold qr3;rcases ho with ⟨rfl,rfl⟩|⟨a,rfl,hai,oa,hoa⟩
 .refine wB (qk2 Z rfl (x:=.none) rfl (qa2 ?_));rwa[if_true];refine wB (qk2 Z rfl (x:=ok) rfl (wB (qk2 Z rfl (x:=ov) rfl ?_)));refine qk8 (qm3 Z Ξ λh3 Y O=>?_)
  replace O:qg9 it h2 h3:=O
  replace Y:iU h3 it d (i+1) kv.length ep .none ξ U ov:=Y
  refine qk8 (qm3 Y Ξ λh4 he4 hs4=>?_)
  replace hs4:qg9 it h3 h4:=hs4
  replace he4:iU h4 it d (i+1) kv.length ep .none ξ U val:=he4
  refine qk8 (qm3 he4 Ξ λh5 he5 hs5=>?_)
  replace hs5:qg9 it h4 h5:=hs5
  replace he5:iU h5 it d (i+1) kv.length ep (qv3 hp.objs.size) ξ U val:=he5
  refine qk8 (qm3 he5 Ξ λh6 he6 hs6=>?_)
  replace hs6:qg9 it h5 h6:=hs6
  replace he6:iU h6 it d (i+1) kv.length ep (qv3 hp.objs.size) ξ U val:=he6
  exact wB (wpAny_letGo (qa2 (qa2 ⟨_,rfl,qa2 (fin h6 _ _ _ _ he6 ⟨hp.objs.size,rfl,qj7 hil,_,ht2⟩ (O.trans (hs4.trans (hs5.trans hs6))))⟩)))
 .have ha2:h2.get? a=ς oa:=hk2 a oa hai hoa;refine wB (qk2 Z rfl (x:=qv3 a) rfl ?_);show wpAny _ _ (loadIfAlive ((a:Int).toNat) >>= _) _ _ _;rw[ql0];refine wB (PySem.W.kdx_alive ha2 ?_);rwa[Option.isNone_some,qe9,if_false];refine wB (qk2 Z rfl (x:=.bool f) rfl ?_);cases f with
  |true=>rw[if_neg (show ¬ ((qr5 θ != qr5 θ)=θ)from qb7)];refine qa2 ?_;rwa[qe9,if_false];exact qa2 (qa2 ⟨_,rfl,qa2 (fin h2 _ _ _ _ Z ⟨a,rfl,hai,oa,ha2⟩ (qg9.refl _ _))⟩)
  |false=>
   rw[if_pos (show(qr5 ξ != qr5 θ)=θ from rfl)];refine qk8 (qm3 Z Ξ λh3 Y O=>?_)
   replace O:qg9 it h2 h3:=O
   replace Y:iU h3 it d (i+1) kv.length ep (qv3 a) θ ok ov:=Y
   refine qa2 ?_;rwa[qe9,if_false];exact qa2 (qa2 ⟨_,rfl,qa2 (fin h3 _ _ _ _ Y ⟨a,rfl,hai,oa,ha2⟩ O)⟩)
theorem uM {Q:ζ Value->qa7->Prop} (nh:A.handled=ψ) (st:ItmS s.heap it d i kv.length ep) (q:EntB s.heap d kv ep) (hi:i=kv.length)
  (k:∀h',Heap.ExtBut it s.heap h'->Q ψ {s with heap:=h'}):wpAny (model prog w) A (za3 (.ref it)) Q E s:=by
 have⟨x0,f,ok,ov,O,ho⟩:=st;have⟨od,es,Z,e2,W,e4⟩:=id q;have U:s.TypeIs (.ref it) "dict_itemiterator":=⟨_,O,rfl⟩;unfold za3;refine wB (wpAny_attempt (qk6 (name:=qd0 "__next__") U qh4 (qf5 qh4 U qu2 ?_ (qt8 _))));refine wB (qa2 (wB (wB ?_)))
 first|refine wB (qj9 U (qa2 ?_))|refine wB (qm9 U (qa2 ?_))
 refine wB (wpAny_fieldsOf O rfl ?_);have ow:qo4 "dict_itemiterator"=θ:=by decide
 rwa[ow,if_true];show wpAny _ _ (if(qb6 d==qh0)=θ then _ else _) _ _ s;rw[if_neg (show ¬ ((qb6 d==qh0)=θ)from qb7)];refine wB (qa2 (wB (qg6 Z W ?_)));have Y:es.size=kv.length:=by rw[<- e4];simp
 rw[if_neg (by rw[Y];simp)];refine wB (qa2 (wB (qo9 Z W ?_)));rw[if_neg Ξ];refine qa2 ?_;have ge:es.size<=i:=by rw[Y];lia
 rwa[show ¬ ((i:Int)<0)from by lia,if_false,ql0,Array.getElem?_eq_none ge];refine wB ?_
 first|refine wB (qj9 U (qa2 ?_))|refine wB (qm9 U (qa2 ?_))
 show wpAny _ _ (setField (.ref it) 2 .none >>= _) _ _ s;refine qk8 (zd4 O rfl Ξ ?_);show wpAny _ _ (newExc (.type "StopIteration") [] >>= _) _ _ _;refine wB ?_;rwa[newExc,newTuple];refine wB (qf7 ?_ (by size_fits));refine qk8 (m:=qy6 _ _) (wpAny_of_eq (a:=qh0) (by first|rfl|(rwa[qy6];rfl)) (qf7 ?_ (by size_fits)));rwa[raiseNew];refine wB (wpAny_handled ?_);rw[show A.in1.handled=ψ from nh];refine wB (qa2 (wpAny_throw ?_));refine wB (qq5 (b:=true) (T:="StopIteration") ⟨_,qc2 _ rfl,rfl⟩ isSubtype_stop ?_);exact qa2 (k _ (((qr1 ..).extBut.push _).push _))
end
abbrev Orc:=J4->Hp->η Dt->ζ T
theorem oZ:∀a b:η Nat,ltCps a b=ξ->ltCps b a=ξ->a=b
 |[],[],_,_=>rfl
 |[],_::_,h,_=>by simp[ltCps]at h
 |_::_,[],_,h=>by simp[ltCps]at h
 |x::r,y::t,h,h'=>by
  rwa[ltCps,qv5,decide_eq_false_iff_not,qu3,beq_iff_eq]at h h';have e:x=y:=by lia
  subst e;rw[oZ r t (h.2 rfl) (h'.2 rfl)]
theorem o0:∀a b:η Nat,ltCps a b=θ->ltCps b a=ξ
 |[],[],h=>by simp[ltCps]at h
 |[],_::_,_=>rfl
 |_::_,[],h=>by simp[ltCps]at h
 |x::r,y::t,h=>by
  rwa[ltCps,qh2,decide_eq_true_eq,qa1,beq_iff_eq]at h;rwa[ltCps,qv5,decide_eq_false_iff_not,qu3,beq_iff_eq];rcases h with h|⟨rfl,h⟩
  .exact⟨Θ,λe=>Θ⟩
  .exact⟨Θ,λ_=>o0 r t h⟩
theorem jv:∀a b c:η Nat,ltCps b a=ξ->ltCps c b=ξ->ltCps c a=ξ
 |[],b,c,h1,h2=>by
  cases b with
  |nil=>exact h2
  |cons y t=>
   cases c with
   |nil=>simp[ltCps]at h2
   |cons z u=>rfl
 |x::r,[],c,h1,h2=>by simp[ltCps]at h1
 |x::r,y::t,[],h1,h2=>by simp[ltCps]at h2
 |x::r,y::t,z::u,h1,h2=>by
  rwa[ltCps,qv5,decide_eq_false_iff_not,qu3,beq_iff_eq]at h1 h2 ⊢;refine⟨Θ,λe=>?_⟩;subst e;have e:y=z:=by lia
  subst e;exact jv r t u (h1.2 rfl) (h2.2 rfl)
noncomputable def leS(a b:Str):Bool:=!ltCps b.cps.toList a.cps.toList
theorem leS_iff{a b:Str}:leS a b=θ↔ltCps b.cps.toList a.cps.toList=ξ:=by simp[leS]
theorem jw(a b c:Str)(h:leS a b=θ)(h':leS b c=θ):leS a c=θ:=leS_iff.mpr (jv _ _ _ (leS_iff.mp h) (leS_iff.mp h'))
theorem rJ(a b:Str):(leS a b||leS b a)=θ:=by
 cases h:leS a b with
 |true=>rfl
 |false=>
  have h1:ltCps b.cps.toList a.cps.toList=θ:=by simpa[leS] using h
  simp[leS_iff.mpr (o0 _ _ h1)]
theorem uN{a b:Str}(h:leS a b=θ)(h':leS b a=θ):a=b:=by
 have e:=oZ _ _ (leS_iff.mp h') (leS_iff.mp h);cases a with
 |mk a=>cases b with
  |mk b=>simp only at e;rw[Array.toList_inj.mp e]
noncomputable def dF(ss:η Str):η Str:=ss.mergeSort leS
theorem bF(ss:η Str):(dF ss).Perm ss:=List.mergeSort_perm ss leS
theorem uO(ss:η Str):(dF ss).Pairwise λa b=>leS a b=θ:=List.pairwise_mergeSort jw rJ ss
theorem jx:∀(p:Str)(l:η Str),risingS p l=θ->(p::l).Pairwise λa b=>leS a b=θ
 |p,[],_=>by simp
 |p,x::r,h=>by
  rwa[risingS,qa1]at h;have U:=jx x r h.2;have h1:leS p x=θ:=h.1;refine qm4.mpr ⟨λy O=>?_,U⟩;rcases qc3.mp O with rfl|O
  .exact h1
  .exact jw _ _ _ h1 ((qm4.mp U).1 y O)
theorem rK:∀l:η Str,sortedS l=θ->l.Pairwise λa b=>leS a b=θ
 |[],_=>qz0
 |x::r,h=>jx x r h
theorem jy:∀{a b:η Str},a.Perm b->(a.Pairwise λa b=>leS a b=θ)->(b.Pairwise λa b=>leS a b=θ)->a=b
 |[],_,p,_,_=>p.nil_eq
 |x::r,b,p,O,hb=>by
  cases b with
  |nil=>exact absurd p.length_eq Ξ
  |cons y t=>
   have U:x∈y::t:=p.mem_iff.mp (.head _);have W:y∈x::r:=p.mem_iff.mpr (.head _)
   have e:x=y:=by
    rcases qc3.mp U with h|h
    .exact h
    .rcases qc3.mp W with h'|h'
     .exact h'.symm
     .exact uN ((qm4.mp O).1 y h') ((qm4.mp hb).1 x h)
   subst e;rw[jy (List.Perm.cons_inv p) (qm4.mp O).2 (qm4.mp hb).2]
theorem ie:∀{ss:η Str}{J3:η Value},Vals (ss.map V.str) J3->StrsAre J3 ss
 |[],_,h=>by cases h;exact .nil
 |x::ss,_,h=>by
  cases h with
  |cons h1 h2=>have⟨t,rfl⟩:=h1;exact .cons x t (ie h2)
theorem jz:∀{J3:η Value}{ss:η Str},StrsAre J3 ss->Vals (ss.map V.str) J3
 |_,_,.nil=>.nil
 |_,_,.cons x t h=>.cons ⟨t,rfl⟩ (jz h)
section
variable{X:Cx}
theorem kx:CallR X (.builtin "sorted") (λxs H Q=>∃p ss,xs=[.ref p]/\SqL X.K H p (ss.map V.str)/\ss.length<64/\∀l,H l=ψ->Q (.ref l) (upd H l (.e ((dF ss).map V.str)))):=by
 intro J0 s σ H xs us Q I r h;have⟨p,ss,rfl,hq,hz,q⟩:=h;have⟨u,rfl,rx⟩:=dC r;cases rx;have⟨J3,W,pl,hz'⟩:=I.list hq;have hS:=ie W;have Y:J3.length=ss.length:=by have:=W.length;simpa using this.symm
 refine sorted_strs pl.isList hS Θ λU O a1 Z a3=>?_
 have e:O=dF ss:=jy (Z.trans (bF ss).symm) (rK O a3) (uO ss);subst e;have⟨c,hc⟩:=sortedAll_at s.heap J3 U;refine⟨.ref (s.heap.objs.size+1),_,I.laid (t':=s.toks) (λ_ _=>sortedAll_old) (qn7 _) (show ObjOk X.prog X.w _ _ _ (.e ((dF ss).map V.str))from⟨?_,U.toList,c,jz a1,hc⟩),rfl,q _ (I.hok.fresh (qn7 _))⟩;rw[qa6,(bF ss).length_eq];exact qd7 (qr6 hz) Ω
def gF:η Dt->ζ T
 |[.e ds]=>(cT ds).bind λss=>if ss.length<64 then ς (.e ((dF ss).map .str))else ψ
 |_=>ψ
theorem jA{F:Hp}:∀ss:η Str,Reps K F (ss.map .str) (ss.map V.str)
 |[]=>by rwa[qf8,Reps]
 |x::ss=>by rwa[qa3,Reps];exact⟨_,_,rfl,by rwa[Rep],jA ss⟩
omit x in
theorem uP:CRD K (λxs H Q=>∃p ss,xs=[.ref p]/\SqL K H p (ss.map V.str)/\ss.length<64/\∀l,H l=ψ->Q (.ref l) (upd H l (.e ((dF ss).map V.str)))) gF:=by
 intro F H ds vs Q t W r O k;unfold gF at O;rcases O
 have⟨ss,U,O⟩:=qk7.mp O;split at O<;>cases O
 rename_i hz;have⟨v,rfl,Y⟩:=bq r;have⟨a,vs,rfl,h1,h2⟩:=Y;have:=fN h2 U;subst this;exact⟨a,ss,rfl,h1,hz,λp hp=>bP k W (jA _) hp⟩
end
noncomputable def once{K:Type}[DecidableEq K](O:η K)(k:K):η K:=if k∈O then O else O++[k]
def met{K:Type}[DecidableEq K](val:Nat->K)(i:Nat):η K:=((qc8 i).map val).foldl once []
noncomputable def nA(ks:η Key):Dt:=.t (ks.map aB)
theorem jB{F:Hp}:∀ks:η Key,Reps K F (ks.map aB) (ks.map kV)
 |[]=>by rwa[qf8,Reps]
 |k::ks=>by rwa[qa3,Reps];exact⟨_,_,rfl,xU k,jB ks⟩
theorem uQ{F:Hp}{b:J4}(h:F b=ς (.t (ks.map kV))):Rep K F (nA ks) (.ref b):=by unfold nA;rwa[Rep];exact⟨b,_,rfl,SqT.of h,jB ks⟩
theorem jC{α β:Type}{R:α->β->Prop}:∀{l:η α}{m:η β},Paired R l m->∀{i:Nat}{a:α},l[i]?=ς a->∃b,m[i]?=ς b/\R a b
 |_,_,.nil,i,a,h=>by simp at h
 |_,_,.cons r t,0,a,h=>by simp at h;subst h;exact⟨_,rfl,r⟩
 |_,_,.cons r t,i+1,a,h=>by simpa using jC t ‹h›
theorem cw{α β:Type}{R:α->β->Prop}:∀{l:η α}{m:η β},Paired R l m->l.length=m.length
 |_,_,.nil=>rfl
 |_,_,.cons r t=>by simp[cw t]
section
variable{X:Cx}{tg:J8}
theorem zN{s:qa7}(I:Inv X J0 σ H s)(h:Rd H a u):ObjOk X.prog X.w H s.heap a u:=by
 rcases h with h|⟨o,h⟩
 .exact I.hok a _ h
 .exact(I.hok a _ h).2
end
theorem kz:typeLookup (.type "list") "keys"=pure ψ:=by rw[typeLookup_type,zc7];kernel_rfl
theorem iV:typeLookup (.type "tuple") "keys"=pure ψ:=by rw[typeLookup_type,zc7];kernel_rfl
theorem a0:plainId "dict.update.loop"=θ:=χ
theorem cW:entryFor table "dict.update.loop"=ς qj8.«dict.update.loop»:=entryFor_of_fast (by kernel_rfl)
noncomputable def tyB(b:Bool):String:=if b then "list" else "tuple"
section
variable{prog:qe3}{w:J5}{A:qk4}{E:Value->qa7->Prop}{s:qa7}{a it:J4}{J3:Array Value}{c:Nat}{sl:Array (ζ Value)}{b:Bool}{i:Nat}
theorem rL {Q:ζ Value->qa7->Prop} (W:s.heap.get? a=ς {cls:=.type (tyB b),dict:=ψ,data:=.seq J3 c,slots:=sl}) (Z:A.handled=ψ)
  (hQ:∀h' tk,(∀b ob,s.heap.get? b=ς ob->h'.get? b=ς ob)->Q ψ {s with heap:=h',toks:=tk}) :
  wpAny (model prog w) A (getAttr? (.ref a) "keys") Q E s:=by
 have⟨h,g,d,t,os⟩:=s;have f1:=sub_AttributeError;cases b with
 |true=>
  replace W:h.get? a=ς {cls:=.type "list",dict:=ψ,data:=.seq J3 c,slots:=sl}:=W
  have Y:∀O,(⟨h,g,d,O,os⟩:qa7).TypeIs (.ref a) "list":=λ_=>⟨_,W,rfl⟩
  have f3:=qs1.lookup;have f4:=qs1.bind (.ref a);have f5:=am_list_getattr_none;unfold getAttr? getAttrBy? getAttrBy
  repeat (any_goals (first|assumption|exact Y _|((with_reducible show wpAny _ _ (call (Value.builtin "list.__getattribute__") _ _) _ _ _);refine qv8 qs1 (Y _) am_entry_list_getattribute (F.args_list_getattribute_2 _ _) (meets_getattribute_miss_list a J3 c sl "keys" _ kz χ) ⟨W,Z,λh' O e U=>?_⟩)|wp_step))
  have⟨t',u',he⟩:=U.there;show wpAny _ _ (qt0 _ _ _ _ _ _ _) _ _ _;unfold qt0
  repeat (any_goals (first|assumption|wp_step))
  exact hQ _ _ U.keeps
 |false=>
  replace W:h.get? a=ς {cls:=.type "tuple",dict:=ψ,data:=.seq J3 c,slots:=sl}:=W
  have Y:∀O,(⟨h,g,d,O,os⟩:qa7).TypeIs (.ref a) "tuple":=λ_=>⟨_,W,rfl⟩
  have f3:=qq1.lookup;have f4:=qq1.bind (.ref a);have f5:=am_tuple_getattr_none;unfold getAttr? getAttrBy? getAttrBy
  repeat (any_goals (first|assumption|exact Y _|((with_reducible show wpAny _ _ (call (Value.builtin "tuple.__getattribute__") _ _) _ _ _);refine qv8 qq1 (Y _) am_entry_tuple_getattribute (F.args_tuple_getattribute_2 _ _) (meets_getattribute_miss_tuple a J3 c sl "keys" _ iV χ) ⟨W,Z,λh' O e U=>?_⟩)|wp_step))
  have⟨t',u',he⟩:=U.there;show wpAny _ _ (qt0 _ _ _ _ _ _ _) _ _ _;unfold qt0
  repeat (any_goals (first|assumption|wp_step))
  exact hQ _ _ U.keeps
theorem rM{l:J4}{Q:ζ Value->qa7->Prop}(U:A.handled=ψ)(O:ItB b s.heap it l i)(hl:CoB b s.heap l J3)(Y:J3[i]?=ψ)(W:∀h',Heap.ExtBut it s.heap h'->Q ψ {s with heap:=h'}):wpAny (model prog w) A (za3 (.ref it)) Q E s:=by
 cases b with
 |true=>exact zb8 U O hl Y W
 |false=>exact za9 U O hl Y W
theorem Ep{l:J4}{x:Value}{Q:ζ Value->qa7->Prop}(O:ItB b s.heap it l i)(hl:CoB b s.heap l J3)(W:J3[i]?=ς x)(U:∀h',ItB b h' it l (i+1)->qg9 it s.heap h'->Q (ς x) {s with heap:=h'}):wpAny (model prog w) A (za3 (.ref it)) Q E s:=by
 cases b with
 |true=>exact za8 O hl W U
 |false=>exact qz4 O hl W U
theorem Er{l:J4}(hl:CoB b s.heap l J3)(O:∀h',ItB b h' s.heap.objs.size l 0->(∀b o,s.heap.get? b=ς o->h'.get? b=ς o)->Q (.ref s.heap.objs.size) {s with heap:=h'}):wpAny (model prog w) A (pyIter (.ref l)) Q E s:=by
 cases b with
 |true=>exact wpAny_pyIter_list hl (O _ ⟨_,qc2 _ rfl,rfl,rfl⟩ λ_ _ e=>gP _ e)
 |false=>exact qs3 hl (O _ ⟨_,qc2 _ rfl,rfl,rfl⟩ λ_ _ e=>gP _ e)
end
variable{items:Array Value}{ps:η (Key×Value)}
section
variable{prog:qe3}{w:J5}{A:qk4}
noncomputable def bX(J1:η (Key×Value)):η (Key×Value)->η (Key×Value)
 |[]=>J1
 |p::ps=>bX (stored J1 p.1 p.2) ps
structure PairsAt(prog:qe3)(w:J5)(h:Heap)(it D:J4)(items:Array Value)(ps:List (Key×Value)):Prop where
 len:items.size=ps.length
 at_:∀(j:Nat)(p:Key×Value),ps[j]?=ς p->∃t key o n,items[j]?=ς (.ref t)/\t≠it/\t≠D/\(aj prog w).is p.1 key=θ/\h.get? t=ς o/\o.cls=.type "tuple"/\o.data=.seq #[key,p.2] n
theorem PairsAt.keep{h:Heap}{it:J4}(P:PairsAt prog w h it D items ps)(k:∀b o,b≠it->b≠D->h.get? b=ς o->h'.get? b=ς o):PairsAt prog w h' it D items ps:=⟨P.len,λj p hp=>by have⟨t,O,o,n,h1,h2,U,h4,Y,W,Z⟩:=P.at_ j p hp;exact⟨t,O,o,n,h1,h2,U,h4,k t o h2 U Y,W,Z⟩⟩
theorem uR {b:Bool} {l it:J4} {O:Value} (hlD:l≠D) (hli:l≠it) (hiD:it≠D) :
  ∀(k i:Nat)(A:qk4)(s:qa7)(J1:η (Key×Value))(R:Result->qa7->Prop),A.handled=ψ->ps.length-i=k->i<=ps.length->ItB b s.heap it l i->CoB b s.heap l items->PairsAt prog w s.heap it D items ps->s.heap.DictOf (aj prog w) D J1→
   J1.length+(ps.length-i)<=qa5→
   (∀h' tk,h'.DictOf (aj prog w) D (bX J1 (ps.drop i))->(∀b o,b≠it->b≠D->s.heap.get? b=ς o->h'.get? b=ς o)->R (.ok (.ret O)) {s with heap:=h',toks:=tk})→
   qu7 (model prog w) A (.builtin "dict.update.loop" ⟨[.ref D,.ref it,qv3 i,O],[]⟩) R s:=by
 intro k;induction k with
 |zero=>
  intro i A s J1 R hh hk hi W hl hP hD hz hR;have hin:i=ps.length:=by lia
  subst hin;refine qp1 cW ?_;rw[qk5 a0 _];unfold qj8.«dict.update.loop»;show wpAny _ _ (za3 (.ref _) >>= _) _ _ _;refine qk8 (rM hh W hl (by rw[<- hP.len];simp) λh' eb=>?_);refine wB (qa2 (qa2 (hR h' s.toks ?_ λb o hb _ e=>eb b o hb e)));rw[qq8];exact hD.extBut eb (qj5 hiD)
 |succ k ih=>
  intro i A s J1 R hh hk hi W hl hP hD hz hR;have hlt:i<ps.length:=by lia
  have⟨t,key,o,n,h1,h2,h3,h4,h5,h6,h7⟩:=hP.at_ i ps[i] (by simp[hlt]);refine qp1 cW ?_;rw[qk5 a0 _];unfold qj8.«dict.update.loop»;show wpAny _ _ (za3 (.ref _) >>= _) _ _ _;refine wB (Ep W hl h1 λh' hit' sb=>?_);have h5':h'.get? t=ς o:=(sb.2 t h2).trans h5;have hD':h'.DictOf (aj prog w) D J1:=hD.sameBut sb (qj5 hiD);show wpAny _ _ (qo5 [qb6 t] _ >>= _) _ _ _;refine wB (qj3 (wB (wpAny_tryCatch ?_)));unfold qj8.Dict.pairItems;refine wB (zc1 (T:="tuple") ⟨o,h5',h6⟩ ?_);rw[if_pos Ω];refine wB (qy5 h5' h7 ?_);refine qa2 ?_;show wpAny _ _ (qo5 [key,ps[i].2] (dictSet D key ps[i].2)) _ _ _;refine qj3 (wpAny_dictSet_pairs (hsz:=by lia) h4 hD' λY hD'' sb'=>?_);refine qa2 ⟨qp9 a0 _,?_⟩
  have kp:∀b o,b≠it->b≠D->s.heap.get? b=ς o->Y.get? b=ς o:=λb o hb U e=>by rw[sb'.2 b U,sb.2 b hb];exact e
  have hl':CoB b Y l items:=by cases b<;>(have⟨ol,e1,e2⟩:=hl;exact⟨ol,kp l ol hli hlD e1,e2⟩)
  have Z:ItB b Y it l (i+1):=hit'.at λo e=>by rw[sb'.2 it hiD];exact e
  refine ih (i+1) _ _ (stored J1 ps[i].1 ps[i].2) R hh Θ Θ Z hl' (hP.keep kp) hD'' ?_ λh3 tk hD3 kp3=>hR h3 tk ?_ λb o hb U e=>kp3 b o hb U (kp b o hb U e)
  .have:=stored_length_le J1 ps[i].1 ps[i].2;lia
  .have:ps.drop i=ps[i]::ps.drop (i+1):=qy4 hlt;rw[this];exact hD3
variable{E:Value->qa7->Prop}{s:qa7}{a:J4}{J3:Array Value}{c:Nat}{sl:Array (ζ Value)}
theorem iW{b:Bool}{ps:η (Key×Value)}(hx:s.heap.get? a=ς {cls:=.type (tyB b),dict:=ψ,data:=.seq J3 c,slots:=sl})(hh:A.handled=ψ)(hl:J3.size=ps.length)(hz:ps.length<=qa5)
 (hp:∀(j:Nat)(p:Key×Value),ps[j]?=ς p->∃t Y o n,J3[j]?=ς (.ref t)/\(aj prog w).is p.1 Y=θ/\s.heap.get? t=ς o/\o.cls=.type "tuple"/\o.data=.seq #[Y,p.2] n)
 (hQ:∀h' tk,h'.DictOf (aj prog w) s.heap.objs.size (bX [] ps)->(∀b ob,s.heap.get? b=ς ob->h'.get? b=ς ob)->Q (.ref s.heap.objs.size) {s with heap:=h',toks:=tk}) :
  wpAny (model prog w) A (call (.type "dict") [.ref a]) Q E s:=by
 refine callType_codes (Q₁:=λobj Z=>obj=.ref s.heap.objs.size/\Z={s with heap:=s.heap.push {cls:=.type "dict",data:=.dict #[]}}) F.kt_called_dict (F.kt_typeCall_dict_1 _) F.entry_dict_init (kt_code_dict_new _ ⟨rfl,rfl⟩) ?_;rintro obj Z ⟨rfl,rfl⟩;have O:(s.heap.push {cls:=.type "dict",data:=.dict #[]}).DictOf (aj prog w) s.heap.objs.size []:=Heap.DictOf.new s.heap;have hx1:(s.heap.push {cls:=.type "dict",data:=.dict #[]}).get? a=ς {cls:=.type (tyB b),dict:=ψ,data:=.seq J3 c,slots:=sl}:=gP _ hx;refine⟨O.typeIs,F.args_dict_init_2 _ _,?_⟩;unfold qj8.«dict.__init__»;refine wB ?_;unfold qj8.Dict.selfAndRest;refine wB (qh7 O.typeIs ?_);show wpAny _ _ (pure (s.heap.objs.size,[qb6 a])) _ _ _;refine qa2 ?_;show wpAny _ _ (qz7 "dict.__init__" s.heap.objs.size (.ref a) [] .none) _ _ _;unfold qz7;refine wB (zc1 (T:=tyB b) ⟨_,hx1,rfl⟩ ?_);rw[if_pos (by cases b<;>decide)];refine wB (rL hx1 hh λh' tk kp=>?_);rw[if_pos (by rfl)];refine wB (zf0 ?_);have hx2:=kp _ _ hx1;have hc2:CoB b h' a J3:=by cases b<;>exact⟨_,hx2,rfl,_,rfl⟩
 refine wB (Er hc2 λh'' hit U=>?_);refine qa2 ⟨qp9 a0 _,?_⟩;have ha:a<s.heap.objs.size:=qb2 hx;have⟨oD,esD,epD,eD,restD⟩:=O;have W:s.heap.objs.size<h'.objs.size:=qb2 (kp _ _ eD);refine uR (b:=b) (l:=a) (it:=h'.objs.size) (D:=s.heap.objs.size) (items:=J3) (ps:=ps) (qc5 ha) (qc5 (qm2 ha W)) (qj5 (qc5 W)) ps.length 0 _ _ [] _ hh Ξ (qg8 _) hit (by cases b<;>exact⟨_,U _ _ hx2,rfl,_,rfl⟩) ⟨hl,λj p hj=>?_⟩ ⟨oD,esD,epD,U _ _ (kp _ _ eD),restD⟩ ‹hz› λh3 tk3 hD3 kp3=>⟨rfl,?_⟩
 .have⟨t,Y,o,n,h1,h2,h3,h4,h5⟩:=hp j p hj;have ht:=qb2 h3;exact⟨t,Y,o,n,h1,qc5 (qm2 ht W),qc5 ht,h2,U _ _ (kp _ _ (gP _ h3)),h4,h5⟩
 .refine hQ h3 tk3 ‹hD3› λb ob e=>kp3 b ob (qc5 (qm2 (qb2 e) W)) (qc5 (qb2 e)) (U _ _ (kp _ _ (za7 _ e)))
end
def aV(J1:η (Key×V)):η (Key×V)->η (Key×V)
 |[]=>J1
 |p::ps=>aV (aq J1 p.1 p.2) ps
theorem KV.all:∀{ps:η (Key×V)}{O:η (Key×Value)}{J1:η (Key×V)}{vs:η (Key×Value)},KV ps O->KV J1 vs->KV (aV J1 ps) (bX vs O)
 |[],[],_,_,_,r=>r
 |[],_::_,_,_,h,_=>by cases h
 |_::_,[],_,_,h,_=>by cases h
 |p::ps,q::O,J1,vs,h,r=>by
  cases h with
  |cons hp W=>have⟨e,U⟩:=hp;have:=KV.all W (r.put p.1 U);show KV (aV (aq J1 p.1 p.2) ps) (bX (stored vs q.1 q.2) O);rw[<- e];exact this
theorem dQ:∀(ps J1:η (Key×V)),(aV J1 ps).length<=J1.length+ps.length
 |[],J1=>by simp[aV]
 |p::ps,J1=>by have h1:=dQ ps (aq J1 p.1 p.2);have h2:=cN J1 p.1 p.2;rwa[aV,qb8];lia
section
variable{X:Cx}
def Es(K:xA9):η V->Hp->VK->Prop:=λxs H Q=>∃(a:J4)(vs:η V)(ps:η (Key×V)),xs=[.ref a]/\(∃b,SqB b K H a vs)/\vs.length=ps.length∧(∀(j:Nat)(p:Key×V),ps[j]?=ς p->∃t,vs[j]?=ς (.ref t)/\SqT K H t [kV p.1,p.2])/\∀p,H p=ψ->Q (.ref p) (upd H p (.dK (aV [] ps)))
theorem nB(hc:X.calm=θ):CallR X (.type "dict") (Es X.K):=by
 intro J0 s σ H xs us Q I r h;have⟨a,vs,ps,rfl,⟨b,hq⟩,hl,hp,q⟩:=h;have⟨u,rfl,rx⟩:=dC r;cases rx
 have hs:∃J3:η Value,Vals vs J3/\(∃n sl,s.heap.get? a=ς {cls:=.type (tyB b),dict:=ψ,data:=.seq J3.toArray n,slots:=sl})/\vs.length<=qa5:=by
  cases b with
  |true=>have⟨J3,rv,⟨⟨cls,dd,data,sl⟩,n,ho,h1,h2,Z⟩,hz⟩:=I.list hq;simp only at h1 h2 Z;subst h1 h2 Z;exact⟨J3,rv,⟨n,sl,ho⟩,hz⟩
  |false=>have⟨J3,rv,⟨⟨⟨cls,dd,data,sl⟩,ho,h1,n,h2⟩,Z⟩,hz⟩:=I.tup hq;have Z:=Z _ ho;simp only at h1 h2 Z;subst h1 h2 Z;exact⟨J3,rv,⟨n,sl,ho⟩,hz⟩
 have⟨J3,rv,⟨n,sl,ho⟩,hz⟩:=hs
 -- the values of the pairs
 have ex:∀(j:Nat)(p:Key×V),ps[j]?=ς p->∃t O u n o,J3[j]?=ς (.ref t)/\RelV (kV p.1) O/\RelV p.2 u/\s.heap.get? t=ς o/\o.cls=.type "tuple"/\o.data=.seq #[O,u] n:=λj p W=>by have⟨t,ht,hT⟩:=hp j p W;have⟨u0,hu0,ru0⟩:=rv.get ht;obtain rfl:u0=qb6 t:=ru0;have⟨ws,rws,⟨o,eo,ec,n,ed⟩,_⟩:=I.tuple hT;have⟨x,y,rfl,rx,ry⟩:=zt rws;exact⟨t,x,y,n,o,hu0,rx,ry,eo,ec,ed⟩
 have exq:∃U:η (Key×Value),KV ps U/\∀(j:Nat)(p:Key×Value),U[j]?=ς p->∃t O o n,J3[j]?=ς (.ref t)/\(aj X.prog X.w).is p.1 O=θ/\s.heap.get? t=ς o/\o.cls=.type "tuple"/\o.data=.seq #[O,p.2] n:=by
  have O:∀ (ps:η (Key×V)) (J3:η Value),(∀ (j:Nat) (p:Key×V),ps[j]?=ς p->∃ t O u n o,J3[j]?=ς (.ref t)/\RelV (kV p.1) O/\RelV p.2 u/\s.heap.get? t=ς o/\o.cls=.type "tuple"/\o.data=.seq #[O,u] n)→
      ∃U:η (Key×Value),KV ps U/\∀(j:Nat)(p:Key×Value),U[j]?=ς p->∃t O o n,J3[j]?=ς (.ref t)/\(aj X.prog X.w).is p.1 O=θ/\s.heap.get? t=ς o/\o.cls=.type "tuple"/\o.data=.seq #[O,p.2] n:=λps=>by
   induction ps with
   |nil=>exact λJ3 _=>⟨[],.nil,λj p h=>by simp at h⟩
   |cons p ps ih=>
    intro J3 h;have⟨t,k,u,n,o,e1,e2,e3,e4,e5,e6⟩:=h 0 p rfl;cases J3 with
    |nil=>simp at e1
    |cons v J3=>
     have⟨U,r1,r2⟩:=ih J3 λj p W=>h (j+1) p ‹W›
     refine⟨(p.1,u)::U,.cons ⟨rfl,e3⟩ r1,λj q W=>?_⟩;cases j with
     |zero=>simp at W;subst W;exact⟨t,k,o,n,‹e1›,g8 e2,e4,e5,e6⟩
     |succ j=>simpa using r2 j q ‹W›
  exact O ps J3 ex
 have⟨U,rq,hq2⟩:=exq;have Y:J3.length=U.length:=by rw[<- rv.length,hl];exact rq.length
 have hzz:U.length<=qa5:=by rw[<- Y,<- rv.length];exact hz
 refine iW (b:=b) ho (I.ok.hd hc) ‹Y› hzz (λj p W=>by have⟨t,O,o,n,e1,e2⟩:=hq2 j p W;exact⟨t,O,o,n,‹e1›,e2⟩) λh' tk hD kp=>⟨.ref s.heap.objs.size,_,I.laid (a:=s.heap.objs.size) (o:=.dK (aV [] ps)) (t':=tk) kp (qq9 _) ?_,rfl,q _ (I.hok.fresh (qq9 _))⟩
 refine mX ?_ (beq_eq_false_iff_ne.mpr (qj5 (qc5 I.big))) (KV.all rq .nil) hD;have:=dQ ps [];have:=rq.length;simp at*
 lia
end
structure EntG(kv:List (Value×Value))(lo:J4)(h:Heap)(as:List J4):Prop where
 rise:as.Pairwise (· < ·)
 above:∀a∈as,lo<a
 pairs:∀(j:Nat)(a:J4),as[j]?=ς a->∃p,kv[j]?=ς p/\h.get? a=ς {cls:=.type "tuple",data:=.seq #[p.1,p.2]}
theorem EntG.there{lo:J4}{h:Heap}{as:η J4}(g:EntG kv lo h as)(O:a∈as):a<h.objs.size:=by have⟨j,U⟩:=qu4.mp O;have⟨_,_,e⟩:=g.pairs j a U;exact qb2 e
theorem ItmS.keep{h:Heap}{it d S:J4}{i n:Nat}(x:ItmS h it d i n ep)(U:∀b o,b≠S->h.get? b=ς o->h'.get? b=ς o)(W:∃o,h'.get? S=ς o)(hI:it≠S):ItmS h' it d i n ep:=by
 have⟨Y,f,ok,ov,O,ho⟩:=x;refine⟨Y,f,ok,ov,U _ _ hI O,ho.imp_right λ⟨a,e,Z,oa,h1⟩=>⟨a,e,Z,?_⟩⟩;by_cases hz:a=S
 .subst hz;exact W
 .exact⟨oa,U a oa hz h1⟩
section
variable{prog:qe3}{w:J5}{A:qk4}{E:Value->qa7->Prop}{s:qa7}{R:Result->qa7->Prop}{kv:η (Value×Value)}{ep:Nat}
theorem rN {S I d:J4} (nh:A.handled=ψ) (hSI:S<I) (hSd:d≠S) (hId:d≠I) (hn:kv.length<=qa5) (res:Value) {h1:Heap}
  (hR:∀h' tk O c as,(∀b o,b≠S->b≠I->h1.get? b=ς o->h'.get? b=ς o)->h'.get? S=ς {cls:=.type "list",dict:=ψ,data:=.seq O c,slots:=#[]}->as.length=kv.length->EntG kv I h' as→
   O.toList=as.map qb6->R (.ok (.ret res)) {s with heap:=h',toks:=tk}) :
  ∀(k i:Nat)(h:Heap)(tk c:Nat)(O:Array Value)(as:η J4),kv.length-i=k->i<=kv.length->ItmS h I d i kv.length ep->EntB h d kv ep->(∀b o,b≠S->b≠I->h1.get? b=ς o->h.get? b=ς o)→
   h.get? S=ς {cls:=.type "list",dict:=ψ,data:=.seq O c,slots:=#[]}->O.toList=as.map qb6->as.length=i->EntG kv I h as->I<h.objs.size→
   qu7 (model prog w) A (.builtin "list.extend.loop" ⟨[.ref S,.ref I,res],[]⟩) R {s with heap:=h,toks:=tk}:=by
 have hne:S≠I:=qc5 hSI;intro k;induction k with
 |zero=>
  intro i h tk c O as hk hi hst hD U hS W hal Z hIs;have hin:i=kv.length:=by lia
  refine qp1 PySem.F.entry_extend_loop ?_;rw[qk5 PySem.F.plain_extend_loop _];show wpAny _ A.in1 (za3 (.ref I) >>= _) _ _ _;refine wB (uM (s:={s with heap:=h,toks:=tk}) (A:=A.in1) nh hst hD hin λh' he=>?_);refine qa2 (hR h' tk O c as (λb o h1 h2 e=>he b o h2 (U b o h1 h2 e)) (he S _ hne hS) Θ ⟨Z.rise,Z.above,λj a hj=>?_⟩ W);have⟨p,e1,e2⟩:=Z.pairs j a hj;exact⟨p,e1,he a _ (qj7 (Z.above a (qa4 hj))) e2⟩
 |succ k ih=>
  intro i h tk c O as hk hi hst hD U hS W hal Z hIs;have hlt:i<kv.length:=by lia
  obtain⟨⟨ky,x⟩,hx⟩:∃p,kv[i]?=ς p:=⟨kv[i],gQ hlt⟩;have hsz:O.size=i:=by rw[<- qh5,W,qa6,hal]
  refine qp1 PySem.F.entry_extend_loop ?_;rw[qk5 PySem.F.plain_extend_loop _];show wpAny _ A.in1 (za3 (.ref I) >>= _) _ _ _;refine wB (rH (s:={s with heap:=h,toks:=tk}) hst hD hx λh' hst' ht hz Y=>?_);dsimp only at ht hz Y ⊢;have hS':=Y S _ hne hS;have up:∀b o,b≠S->h'.get? b=ς o->(h'.update S (ql1 (·.push (qb6 h.objs.size)))).get? b=ς o:=λb o hb e=>(qi6 _ _ (qj5 hb)).trans e
  have hSl:S<h.objs.size:=qb2 hS;show wpAny _ A.in1 (zg5 S (·.push (qb6 h.objs.size)) >>= _) _ _ _
  refine wB (qw5 hS' rfl (qa2 ⟨qp9 PySem.F.plain_extend_loop _,ih (i+1) _ tk _ (O.push (qb6 h.objs.size)) (as++[h.objs.size]) Θ hlt (hst'.keep up ⟨_,qg1 _ hS' rfl⟩ (qj5 hne)) (hD.upTo λo e=>up d o hSd (Y d o hId e))
   (λb o h1 h2 e=>up b o h1 (Y b o h2 (U b o h1 h2 e))) (qg1 _ hS' rfl) (by rw[Array.toList_push,W,qd6];rfl) (by rw[qc4,hal];rfl) ⟨?_,?_,?_⟩ ?_⟩) (by rw[hsz];lia) (by show(O.push (qb6 h.objs.size)).size<=qa5+1;rw[Array.size_push,hsz];lia))
  .refine List.pairwise_append.mpr ⟨Z.rise,List.pairwise_singleton _ _,λa ha b hb=>?_⟩;rw[qx5.mp hb];exact Z.there ha
  .intro a ha;rcases qh1.mp ha with ha|ha
   .exact Z.above a ha
   .rw[qx5.mp ha];exact hIs
  .intro j b hj;rcases Nat.lt_trichotomy j as.length with h1|h1|h1
   .rw[gL h1]at hj;have⟨p,e1,e2⟩:=Z.pairs j b hj;have hb:=Z.above b (qa4 hj);exact⟨p,e1,up b _ (qj7 (qm2 hSI hb)) (Y b _ (qj7 hb) e2)⟩
   .subst h1;have hb:h.objs.size=b:=‹hj›
    subst hb;exact⟨_,by rw[hal];exact hx,up _ _ (qj7 hSl) ht⟩
   .have hnone:(as++[h.objs.size])[j]?=ψ:=qg4 (by rw[qc4,qm1];lia);rw[hnone]at hj;cases hj
  .have e:(h'.update S (ql1 (·.push (qb6 h.objs.size)))).get? h.objs.size=_:=up _ _ (qj7 hSl) ht;exact qm2 hIs (qb2 e)
variable{r d:J4}
theorem rO(nh:A.handled=ψ)(hv:s.heap.IsItemsView r d)(hm:EntB s.heap d kv ep)(hn:kv.length<=qa5)
 (hQ:∀h' tk acc c as,(∀b o,s.heap.get? b=ς o->h'.get? b=ς o)->h'.get? s.heap.objs.size=ς {cls:=.type "list",dict:=ψ,data:=.seq acc c,slots:=#[]}->as.length=kv.length->EntG kv s.heap.objs.size h' as→
 acc.toList=as.map qb6->Q (.ref s.heap.objs.size) {s with heap:=h',toks:=tk}) :
  wpAny (model prog w) A (call (.type "list") [.ref r]) Q E s:=by
 refine callType_codes (Q₁:=λobj s₁=>obj=.ref s.heap.objs.size/\s₁={s with heap:=s.heap.push {cls:=.type "list",data:=.seq #[]}}) PySem.F.called_list (PySem.F.typeCall_list_1 _) PySem.F.entry_list_init
  (code_list_new _ ⟨rfl,rfl⟩) λobj s₁ h₁=>?_
 have⟨rfl,rfl⟩:=h₁;have hS:(s.heap.push {cls:=.type "list",data:=.seq #[]}).get? s.heap.objs.size=ς {cls:=.type "list",data:=.seq #[]}:=qc2 _ rfl;have hr:r<s.heap.objs.size:=let ⟨_,ho,_⟩:=hv;qb2 ho;have hd:d<s.heap.objs.size:=hm.lt;have hSr:=qj7 hr;have hSd:d≠s.heap.objs.size:=qc5 hd;refine⟨⟨_,hS,rfl⟩,PySem.F.args_list_init_2 _ _,?_⟩;generalize hh:s.heap.push {cls:=.type "list",data:=.seq #[]}=h0 at hS;have kp:∀b o,s.heap.get? b=ς o->h0.get? b=ς o:=λb o e=>by rw[<- hh];exact gP _ e
 have hsz:h0.objs.size=s.heap.objs.size+1:=by rw[<- hh,qo1]
 generalize hSe:s.heap.objs.size=S at*
 show wpAny _ _ (do let old <- zb2 (.ref S);qj8.List.listUpdate (.ref S) (λ_=>#[]);letGo old.toList.reverse;qp2 (.ref S) (.ref r) .none) _ _ _;refine wB ?_;unfold zb2;refine wB (qy5 hS rfl (qa2 ?_));show wpAny _ _ (zg5 S (λ_=>#[]) >>= λ_=>letGo (#[]:Array Value).toList.reverse >>= λ_=>qp2 (.ref S) (.ref r) .none) _ _ _;refine wB (qw5 hS rfl ?_);have hS2:=qg1 (ql1 (λ_=>(#[]:Array Value))) hS rfl;have oth:∀b o,b≠S->h0.get? b=ς o->(h0.update S (ql1 (λ_=>(#[]:Array Value)))).get? b=ς o:=λb o hb e=>(qi6 _ _ (qj5 hb)).trans e
 generalize h0.update S (ql1 (λ_=>(#[]:Array Value)))=h2 at hS2 oth;refine wB (wpAny_letGo ?_);have hv2:h2.IsItemsView r d:=let ⟨o,ho,x⟩:=hv;⟨o,oth r o (qj5 hSr) (kp r o ho),x⟩;have hm2:EntB h2 d kv ep:=hm.upTo λo e=>oth d o hSd (kp d o e)
 have kp2:∀b o,s.heap.get? b=ς o->b≠S->h2.get? b=ς o:=λb o e hb=>oth b o hb (kp b o e)
 unfold qp2;refine wB (zc1 (T:="dict_items") (let ⟨o,ho,hc,_⟩:=hv2;⟨o,ho,hc⟩) ?_);have q1:qz3 (.ref S) (.ref r)=ξ:=by simp[qz3,hSr]
 have q2:(qp4 "dict_items"==qp4 "list")=ξ:=by decide
 have q3:(qp4 "dict_items"==qp4 "tuple")=ξ:=by decide
 rwa[q1,q2,q3,Bool.or_false,qe9,if_false];refine wB (rG hv2 hm2 λh3 Z Y lt3=>?_);dsimp only at Z Y lt3 ⊢;have O:S<h2.objs.size:=qb2 hS2;have hS3:=Y _ _ hS2
 have key:∀ (h:Heap) (c1 tk:Nat),(∀ b o,b≠S->h3.get? b=ς o->h.get? b=ς o)->h.get? S=ς {cls:=.type "list",data:=.seq #[] c1}->ItmS h h2.objs.size d 0 kv.length ep->h2.objs.size<h.objs.size→
     qu7 (model prog w) A.in1 (.builtin "list.extend.loop" ⟨[.ref S,.ref h2.objs.size,.none],[]⟩) (wants (λr U=>r=qh0/\Q (qb6 S) U) E) {s with heap:=h,toks:=tk}:=by
  intro h c1 tk hk hS1 hit hlt
  refine rN (A:=A.in1) (R:=wants (λr U=>r=qh0/\Q (qb6 S) U) E) (kv:=kv) (ep:=ep) (s:=s) (h1:=s.heap) nh O hSd (qc5 (qm2 Θ O)) hn .none (λh' tk' acc c as hk' hS' hl hG hacc=>⟨rfl,hQ h' tk' acc c as (λb o e=>hk' b o (qc5 (by rw[<- hSe];exact qb2 e)) (qc5 (qm2 (by rw[<- hSe];exact qb2 e) O)) e) hS' hl ⟨hG.rise,λa ha=>qm2 O (hG.above a ha),hG.pairs⟩ hacc⟩)
   kv.length 0 h tk c1 #[] [] (qx4 _) (qg8 _) hit (hm2.upTo λo e=>hk d o hSd (Y d o e)) (λb o hb _ e=>hk b o hb (Y b o (kp2 b o e hb))) hS1 rfl rfl ⟨qz0,(λ_ ha=>nomatch ha),(λj a hj=>by simp at hj)⟩ hlt
 refine wB (qj3 (PySem.W.kdx_hint (let ⟨o,ho,hc,_⟩:=hv2;⟨o,Y r o ho,hc⟩) ?_));refine wpAny_ite_split (λ_=>?_) (λ_=>qa2 ⟨qp9 PySem.F.plain_extend_loop _,key _ _ _ (λb o _ e=>e) hS3 Z lt3⟩);refine wB (zf0 (wB ?_));show wpAny _ _ (zg5 S (·.push .none) >>= λ_=>zg5 S (·.pop)) _ _ _;refine wB (qw5 hS3 rfl ?_);have hS4:=qg1 (ql1 (·.push qh0)) hS3 rfl;refine qw5 (hz:=by seq_fits) hS4 rfl ?_;have hS5:=qg1 (ql1 (·.pop)) hS4 rfl;have hk5:∀b o,b≠S->h3.get? b=ς o->((h3.update S (ql1 (·.push qh0))).update S (ql1 (·.pop))).get? b=ς o:=λb o hb e=>(qi6 _ _ (qj5 hb)).trans ((qi6 _ _ (qj5 hb)).trans e)
 refine qa2 ⟨qp9 PySem.F.plain_extend_loop _,key _ _ _ hk5 hS5 (Z.keep hk5 ⟨_,hS5⟩ (qj7 O)) ?_⟩;have:∃o,h3.get? h2.objs.size=ς o:=let ⟨_,_,_,_,e,_⟩:=Z;⟨_,e⟩;have⟨o,ho⟩:=this;exact qb2 (hk5 _ o (qj7 O) ho)
end
section
variable{X:Cx}{J0:η (J4×Obj)}{σ:St}{H H':Hp}{s:qa7}{h':Heap}
theorem Inv.more (I:Inv X J0 σ H s) (k:∀ b u,s.heap.get? b=ς u->h'.get? b=ς u) (hs:Same H H') (O:∀ b,b<s.heap.objs.size->H b=ψ->H' b=ψ) (new:∀ b o,H' b=ς o->H b=ψ->ObjOk X.prog X.w H' h' b o) :
  Inv X J0 σ H' {s with heap:=h',toks:=t'}:=
 I.un ⟨λb u q _ _ _=>k b u q,λb u q _ _ _=>⟨u.slots,k b u q⟩,λb u q n _=>O b (qb2 q) n,λb u q _=>⟨u,k b u q⟩,λb xs q=>hs _ _ q,λb u xs q=>hs _ _ q,λb ps q=>⟨#[],by rw[hs _ _ q];simp⟩,λb U q=>hs _ _ q⟩ λb o e=>by
  cases q:H b with
  |none=>exact new b o e q
  |some u=>have:=hs b u q;rw[e]at this;cases this;exact(I.hok b o q).stay (λc v _ q=>k c v q) (λc q=>hs _ _ q) (λc xs q=>hs _ _ q) λc ob xs q=>hs _ _ q
def eO(H:Hp):η J4->η (η V)->Hp
 |t::ts,p::ps=>upd (eO H ts ps) t (.t p)
 |_,_=>H
theorem kF:∀{ts:η J4}{ps:η (η V)}{j:Nat}{t:J4}{p:η V},ts.Nodup->ts[j]?=ς t->ps[j]?=ς p->eO H ts ps t=ς (.t p)
 |[],_,j,t,p,_,h,_=>by simp at h
 |t::ts,[],j,_,p,_,_,h=>by simp at h
 |t::ts,q::ps,0,_,_,_,h,h'=>by simp at h h';subst h h';exact ac
 |t::ts,q::ps,j+1,x,p,O,h,h'=>by rwa[qd2]at h h';have O:=qc6.mp O;rwa[eO];rw[af λe=>O.1 (by rw[<- e];exact qa4 h)];exact kF O.2 h h'
theorem cz{b:J4}:∀{ts:η J4}{ps:η (η V)},b∉ts->eO H ts ps b=H b
 |[],_,_=>rfl
 |t::ts,[],_=>rfl
 |t::ts,q::ps,h=>by rwa[qc3,not_or]at h;rwa[eO];rw[af h.1];exact cz h.2
theorem jD:∀{ts:η J4}{ps:η (η V)},(∀t∈ts,H t=ψ)->Same H (eO H ts ps):=λ{ts ps} h b o e=>by rw[cz λz=>by rw[h b z]at e;cases e];exact e
end
noncomputable def vwI(v d:J4):HO:=.ext λh=>h.IsItemsView v d
section
variable{X:Cx}
def rItm:V->η V->Hp->VK->Prop:=λx vs H Q=>∃d J1,x=.ref d/\vs=[]/\Rd H d (.dT J1)/\∀v,H v=ψ->Q (.ref v) (upd H v (vwI v d))
theorem o4 {w:J5} {h:Heap} {J1:η (η Key×V)} (x:ObjOk P w H h a (.dT J1)):J1.length<=qa5/\(a==qi7)=ξ/\∃ (bs:η J4) (us:η Value) (ep:Nat),EntB h a (List.zip (bs.map .ref) us) ep/\bs.length=J1.length/\us.length=J1.length∧
  (∀(j:Nat)(p:η Key×V),J1[j]?=ς p->∃b u,bs[j]?=ς b/\us[j]?=ς u/\H b=ς (.t (p.1.map kV))/\RelV p.2 u):=by
 have⟨z,y,xs,r,o,es,ep,h1,h2,U,h4,Y⟩:=x;refine⟨z,y,xs.map (·.2.1),xs.map (·.2.2),ep,⟨o,es,h1,h2,U,?_⟩,by rw[qa6,<- cw r],by rw[qa6,<- cw r],λj p hp=>?_⟩
 .rw[h4,qd1,qd1,List.zip_map',];rfl
 .have⟨q,O,_,hb,W⟩:=jC r hp;exact⟨q.2.1,q.2.2,by rw[qa8,O];rfl,by rw[qa8,O];rfl,hb,W⟩
theorem uS:MtR X "dict.items" rItm:=by intro J0 s σ H x vs v us Q I Z W h;have⟨d,J1,rfl,rfl,U,q⟩:=h;cases Z;cases W;have⟨z,y,bs,ws,ep,en,_⟩:=o4 (zN I U);refine rF y en ?_;refine⟨.ref s.heap.objs.size,_,I.laid (a:=s.heap.objs.size) (o:=vwI s.heap.objs.size d) (t':=s.toks) (λb o e=>gP _ e) (nL _) ?_,rfl,q _ (I.hok.fresh (nL _))⟩;exact⟨⟨_,qc2 _ rfl,rfl,rfl⟩,⟨_,qc2 _ rfl⟩,λh1 h2 O k=>by have⟨o,Y,x⟩:=O;exact⟨o,k o Y,x⟩⟩
def rIls:η V->Hp->VK->Prop:=λxs H Q=>∃v d J1,xs=[.ref v]/\H v=ς (vwI v d)/\Rd H d (.dT J1)/\∀(bs ts:η J4)(l:J4),bs.length=J1.length->ts.length=J1.length->(∀(j:Nat)(b:J4)(p:η Key×V),bs[j]?=ς b->J1[j]?=ς p->H b=ς (.t (p.1.map kV)))→
 ts.Nodup->(∀t∈ts,H t=ψ)->H l=ψ->l∉ts->Q (.ref l) (upd (eO H ts (qu5 (λb p=>[V.ref b,p.2]) bs J1)) l (.e (ts.map V.ref)))
theorem uT(hc:X.calm=θ):CallR X (.type "list") rIls:=by
 intro J0 s σ H xs us Q I r h;have⟨v,d,J1,rfl,hv,hd,q⟩:=h;have⟨u,rfl,rx⟩:=dC r;cases rx;have⟨z,y,bs,ws,ep,en,hl1,hl2,hp⟩:=o4 (zN I hd);have hV:s.heap.IsItemsView v d:=(show ObjOk X.prog X.w H s.heap v (vwI v d)from I.hok v _ hv).1;have hkl:(List.zip (bs.map qb6) ws).length=J1.length:=by rw[List.length_zip,qa6,hl1,hl2,Nat.min_self]
 refine rO (I.ok.hd hc) hV en (by rw[hkl];exact z) λh' tk acc c as kp hD O Z U=>?_
 rw[hkl]at O;have hsz:=Z.above;have Y:as.Nodup:=Z.rise.imp λh=>qc5 h
 have hfr:∀t∈as,H t=ψ:=λt ht=>I.hok.fresh (qr6 (Z.above t ht))
 have hl0:H s.heap.objs.size=ψ:=I.hok.fresh (nL _);have hln:s.heap.objs.size∉as:=λz=>qn6 _ (Z.above _ z)
 have hS1:Same H (eO H as (qu5 (λb p=>[V.ref b,p.2]) bs J1)):=jD hfr;have W:eO H as (qu5 (λb p=>[V.ref b,p.2]) bs J1) s.heap.objs.size=ψ:=by rw[cz hln];exact hl0
 refine⟨.ref s.heap.objs.size,_,I.more (t':=tk) (H':=upd (eO H as (qu5 (λb p=>[V.ref b,p.2]) bs J1)) s.heap.objs.size (.e (as.map V.ref))) kp (hS1.trans (Same.upd W)) (λb hb n=>?_) (λb o e n=>?_),rfl,q bs as _ hl1 O (λj b p h1 h2=>?_) Y hfr hl0 hln⟩
 .rw[af (qc5 hb),cz λz=>absurd (Z.above b z) (qo2.mpr (qr6 hb))];exact n
 .by_cases hb:b=s.heap.objs.size
  .subst hb;rw[ac]at e;cases e;refine⟨by rw[qa6,O];exact z,acc.toList,c,?_,by rw[Array.toArray_toList];exact hD⟩;rw[U];clear U Z O hsz Y hfr hln hS1 W;induction as with
   |nil=>exact .nil
   |cons b bs ih=>exact .cons rfl ih
  .rw[af hb]at e;by_cases hm:b∈as
   .have⟨j,hj⟩:=qu4.mp hm;have⟨p,hp1,hp2⟩:=Z.pairs j b hj;have hjl:j<J1.length:=by rw[<- O];exact(gX hj).1
    have⟨b',u',e1,e2,e3,e4⟩:=hp j J1[j] (by simp[hjl])
    have hzw:(qu5 (λb p=>[V.ref b,p.2]) bs J1)[j]?=ς [V.ref b',J1[j].2]:=by rw[zc8,e1];simp[hjl]
    rw[kF Y hj hzw]at e;cases e
    have hzp:(List.zip (bs.map qb6) ws)[j]?=ς (.ref b',u'):=by rw[qy2];exact⟨by rw[qa8,e1];rfl,e2⟩
    rw[hzp]at hp1;cases hp1;exact⟨by show 2<=qa5;rw[qc1];lia,[.ref b',u'],.cons rfl (.cons e4 .nil),.of (n:=0) hp2 rfl rfl rfl⟩
   .rw[cz hm,n]at e;cases e
 .have⟨b',u',e1,_,e3,_⟩:=hp j p h2;rw[h1]at e1;cases e1;exact e3
def Et:V->η V->Hp->VK->Prop:=λx vs H Q=>∃d,x=.ref d/\vs=[]/\((∃J1,H d=ς (.dT J1))/\Q .non (upd H d (.dT []))\/(∃J1,H d=ς (.dK J1))/\Q .non (upd H d (.dK [])))
theorem yl:MtM X "dict.clear" Et:=by
 intro J0 s σ H x vs v us Q I rx rv h;have⟨d,rfl,rfl,h⟩:=h;cases rx;cases rv;rcases h with ⟨⟨J1,O⟩,q⟩|⟨⟨J1,O⟩,q⟩
 .have⟨z,y,xs,r,o,es,ep,h1,h2,U,h4,h5⟩:=I.hok d _ O
  have W:es.size<=qa5:=by have e1:=congrArg qj0 h4;have e2:=cw r;simp at e1;lia
  have Z:s.TypeIs (.ref d) "dict":=⟨o,h1,h2.1⟩;refine qf5 F.slot_dict_clear Z F.entry_dict_clear ?_ (F.args_dict_clear_1 _);unfold qj8.«dict.clear»;refine wB ?_;unfold qj8.Dict.noArgs;refine wB (qh7 Z ?_);show wpAny _ _ (pure d) _ _ s;refine qa2 (wB (qg6 h1 U (wB ?_)));unfold bearsInstanceDictMark;refine wB (wpAny_load h1 (qa2 (wB (wpAny_updateDictKeys (hz:=W) h1 U ?_))));have Y:=qg1 (Obj.mapDictKeys λ_=>#[]) h1 (Obj.isFreed_of_dict (Obj.data_mapDictKeys U _))
  have fin:EP X J0 σ Q .none {s with heap:=s.heap.update d (Obj.mapDictKeys λ_=>#[])}:=by refine⟨.non,_,gx (t':=s.toks) I (by rw[O];exact ql6) (qr1 ..) ⟨_,Y⟩ ?_,rfl,q⟩;exact⟨qg8 _,y,[],.nil,_,_,_,Y,h2.mapDictKeys _,Obj.data_mapDictKeys U _,rfl,qy1⟩
  split
  .exact wB (wpAny_letGo (qa2 ⟨.none,rfl,fin⟩))
  .exact wB (qa2 (qa2 ⟨.none,rfl,fin⟩))
 .exact xf I O λs' I'=>⟨.non,_,I',rfl,q⟩
end
variable{J1:η (Key×V)}
section
variable{G:Gx}{X:Cx}{e o a:J8}{es:η J8}{pos spos apos cpos p tpos:Pos}{f fa fe fk:Fg}{m:Md}{i:Nat}{sc:J9}{x:Str}{F H:Hp}{ρ:Nat->J4}{ch:CH}{c:CV}{v:V}
def nC(ch:CH):CV->ζ (η (η Key×Dt))
 |.ref i=>match ch[i]? with
  |some (.dT l)=>(dats (l.map (·.2))).map λds=>(l.map (·.1)).zip ds
  |_=>ψ
 |.own _ (.dcT l)=>ς l
 |_=>ψ
omit x in
theorem ym{l:η (η Key×Dt)}(g:Gh G F H ρ ch)(r:RelC G F H ρ ch.length c v)(h:nC ch c=ς l):∃a J1,v=.ref a/\H a=ς (.dT J1)/\J1.map (·.1)=l.map (·.1)/\Reps G.K F (l.map (·.2)) (J1.map (·.2)):=by
 unfold nC at h;split at h
 .rename_i i;rcases h
  rename_i Y hl;have⟨ds,U,rfl⟩:=mS h;have⟨_,J1,h1,h2,O⟩:=g.ok i _ hl
  have W:(Y.map (·.1)).length=ds.length:=by have:=congrArg qj0 (cq U);simpa using this
  refine⟨_,J1,r.2,h1,?_,?_⟩
  .rw[h2,za6 Θ]
  .rw[List.map_snd_zip Θ];exact aW U O
 .cases h;have⟨a,rfl,_,⟨b,J1,e,rfl,h1,h2,O⟩,_⟩:=r;exact⟨_,J1,rfl,h1,h2,O⟩
 .cases h
noncomputable def dR(l:η (η Key×Dt)):η Dt:=l.map λq=>.t [nA q.1,q.2]
def eIl(m:Md)(fa:Fg):Fg:=λδ ch=>(fa δ ch).bind λp=>(nC p.2 p.1).bind λl=>fin m p.2 (.e (dR l))
theorem l3:∀{ds:η Dt}{vs:η V},ds.length=vs.length->(∀(j:Nat)(d:Dt)(v:V),ds[j]?=ς d->vs[j]?=ς v->Rep K F d v)->Reps K F ds vs
 |[],[],_,_=>by simp[Reps]
 |[],_::_,h,_=>by cases h
 |_::_,[],h,_=>by cases h
 |d::ds,v::vs,h,q=>by rwa[Reps];exact⟨v,vs,rfl,q 0 d v rfl rfl,l3 ‹h› λj d v h1 h2=>q (j+1) d v ‹h1› ‹h2›⟩
theorem Ch (hK:X.K=G.K) (h:aL sc "list"=θ) (hc:X.calm=θ) (hm:X.mg "list"=ψ) (ha:GE G X o fa) (e1:aY X sc) (Y:qj4 o "items" X.env (eval o X.env)=eval o X.env) (W:(apos.endLine==cpos.line)=θ) :
  GE G X (.Call (.Name "list" p) [.Call (.Attribute o "items" apos) [] [] cpos] [] pos) (eIl m fa):=
 PE.mono (dM h (uT hc) hm rfl (bf (mW PySem.F.plainAttrs_dict PySem.F.slot_dict_items PySem.F.type_dict_items uS ha Y W) ck rfl) e1 rfl rfl) λσ H Q hq1=>by
  have⟨Φ,δ,ch,F,ρ,c,ch',en,hf,k⟩:=hq1;have⟨q,h1,hf1⟩:=bS hf;have⟨l,h2,hf2⟩:=bS hf1;refine⟨Φ,δ,ch,F,ρ,_,_,en,h1,λv F1 H1 ρ1 a1 r1=>?_⟩;have⟨d,J1,rfl,hH,hk,hr⟩:=ym a1.gh r1.1 h2;have hlen:J1.length=l.length:=by have:=congrArg qj0 hk;simpa using this
  refine⟨.inr (.inr (.inl ⟨rfl,.inr ⟨_,hH⟩⟩)),d,J1,rfl,rfl,.inl hH,λx hx=>⟨x,d,J1,rfl,ac,.inl ?_,λbs ts ls hb ht Z nd fr hl U=>?_⟩⟩
  .rw[af (aD hH hx)];exact hH
  have k1:=(bE a1.gh hf2 (k.adv a1)).step (Step.made (o:=vwI x d) a1.gh.fh hx);have fh1:Same F1 (upd H1 x (vwI x d)):=a1.gh.fh.trans (Same.upd hx);generalize upd H1 x (vwI x d)=H2 at Z fr hl k1 fh1 ⊢
  have hbn:∀b∈bs,∃vs,H2 b=ς (.t vs):=λb hm=>by
   have⟨j,hj⟩:=List.getElem?_of_mem hm;have U:j<J1.length:=by rw[<- hb];exact(gX hj).1
   exact⟨_,Z j b _ hj (gQ U)⟩
  have hb1:∀{b:J4},b∈bs->b∉ts:=λ{b} h1 h2=>by have⟨vs,e⟩:=hbn b h1;rw[fr b h2]at e;cases e
  let ps:=qu5 (λb (p:η Key×V)=>[V.ref b,p.2]) bs J1;have hpl:ps.length=ts.length:=by simp[ps,hb,ht]
  let F':Hp:=λb=>if b∈ts\/b∈bs then eO H2 ts ps b else F1 b
  have fin:∀{b:J4},b∈ts\/b∈bs->F' b=eO H2 ts ps b:=λh=>if_pos h
  have O:∀{b:J4},¬ (b∈ts\/b∈bs)->F' b=F1 b:=λh=>if_neg h
  have hs:=jD (ps:=ps) fr
  have ff:Same F1 F':=λb o e=>by
   by_cases h:b∈ts\/b∈bs
   .rw[fin h];exact hs _ _ (fh1 _ _ e)
   .rw[O h];exact e
  have fh':Same F' (eO H2 ts ps):=λb o e=>by
   by_cases h:b∈ts\/b∈bs
   .rw[fin h]at e;exact e
   .rw[O h]at e;exact hs _ _ (fh1 _ _ e)
  have st:Step F1 H2 F' (eO H2 ts ps):=⟨hs,ff,fh',λb o e=>by
   by_cases h:b∈ts\/b∈bs
   .rcases h with h|h
    .exact .inr (.inl (fr b h))
    .exact .inr (.inr (hbn b h))
   .rw[O h]at e;exact .inl e⟩
  refine bP (k1.step st) fh' (l3 (by simp[dR,ht,hlen]) λj y z h3 h4=>?_) (by rw[cz U];exact hl);unfold dR at h3;rw[qa8]at h3 h4;have⟨q,hq,rfl⟩:=mS h3;have⟨t,htt,rfl⟩:=mS h4;have hj:j<l.length:=(gX hq).1;obtain⟨p,hp⟩:∃p,J1[j]?=ς p:=⟨J1[j],gQ Θ⟩;obtain⟨b,hbj⟩:∃b,bs[j]?=ς b:=⟨bs[j],gQ Θ⟩
  have hpk:p.1=q.1:=by
   have e1:(J1.map (·.1))[j]?=ς p.1:=by rw[qa8,hp];rfl
   have e2:(l.map (·.1))[j]?=ς q.1:=by rw[qa8,hq];rfl
   rw[hk,e2]at e1;exact(qd3 e1).symm
  have⟨w,hw,rw'⟩:=hr.get (i:=j) (d:=q.2) (by rw[qa8,hq];rfl);have hwp:w=p.2:=by rw[qa8,hp]at hw;exact(qd3 hw).symm
  subst hwp;have hpj:ps[j]?=ς [V.ref b,p.2]:=by rwa[ps];rw[zc8,hbj,hp]
  rwa[Rep];refine⟨t,[V.ref b,p.2],rfl,SqT.of (by rw[fin (.inl (qa4 htt))];exact kF nd htt hpj),?_⟩;rwa[Reps];refine⟨_,_,rfl,uQ ?_,_,_,rfl,rw'.same ff,rfl⟩;have hbm:=qa4 hbj;rw[fin (.inr hbm),cz (hb1 hbm),Z j b p hbj hp,hpk]
def rP(fa fe:Fg):Fg:=λδ ch=>(fa δ ch).bind λp=>(fe δ p.2).bind λq=>match p.1 with
 |.ref i=>(cH p.2 i).bind λ_=>(cH q.2 i).bind λl=>(bR q.1).bind λj=>if 0<=j/\j<l.length/\l.length<=1000000 then(l[j.toNat]?).map λc=>(c,q.2.set i (.e (l.eraseIdx j.toNat)))else ψ
 |_=>ψ
theorem Paired.erase{α β:Type}{R:α->β->Prop}:∀{l:η α}{m:η β}(i:Nat),Paired R l m->Paired R (l.eraseIdx i) (m.eraseIdx i)
 |_,_,_,.nil=>.nil
 |_,_,0,.cons _ t=>t
 |_,_,i+1,.cons r t=>.cons r (Paired.erase i t)
theorem rQ{n:Nat}(O:0<=j)(h1:j<n):ze2 j n=ς j.toNat:=by unfold ze2;have e:(if j<0 then j+(n:Int)else j)=j:=if_neg Θ;rwa[e];rw[if_pos (by simp[O,h1])]
omit x in
theorem Ci(hx:GE G X o fa)(he:GE G X e fe)(A:AsM X o "pop" apos [e] cpos):GE G X (.Call (.Attribute o "pop" apos) [e] [] cpos) (rP fa fe):=
 PE.mono (lE PySem.F.plainAttrs_list PySem.F.slot_list_pop PySem.F.type_list_pop tm hx (bf he ck (A.star _ _ rfl).1) A.base A.few A.line (A.star _ _ rfl).1 (A.star _ _ rfl).2) λσ H Q hq2=>by
  have⟨Φ,δ,ch,F,ρ,c,ch',en,hg,k⟩:=hq2;have⟨⟨c1,ch1⟩,h1,hg1⟩:=bS hg;have⟨q,h2,U⟩:=bS hg1;cases c1 with
  |ref i=>
   have⟨l0,h3,hg3⟩:=bS U;have⟨l,h4,hg4⟩:=bS hg3;have⟨j,h5,O⟩:=bS hg4;rcases O
   rename_i hz;have⟨c',h6,e6⟩:=mS O;cases e6;refine⟨Φ,δ,ch,F,ρ,_,_,en,h1,λv F1 H1 ρ1 a1 r1=>?_⟩;have⟨Y,q0,_⟩:=a1.gh.ok i _ (bW h3);have⟨hi,rfl⟩:=r1.1;refine⟨.inl ⟨rfl,Y,.inl (.inl q0)⟩,Φ,δ,_,F1,ρ1,_,_,en.adv a1,h2,λw F2 H2 ρ2 W r2=>?_⟩;have⟨vs,q1,q2⟩:=W.gh.ok i _ (bW h4);have hz2:ρ2 i=ρ1 i:=W.ext i hi;have hw:=cu h5 r2.1;subst hw;have⟨y,hy,ry⟩:=Paired.get q2 h6;have Z:Adv G F2 H2 ρ2 q.2 F2 _ ρ2 _:=.put (o:=.e (l.eraseIdx j.toNat)) (u:=.e (vs.eraseIdx j.toNat)) W.gh (bW h4) trivial ⟨_,ac,Paired.erase _ q2⟩;rw[hz2]at q1 Z;exact⟨_,vs,j,j.toNat,y,rfl,rfl,q1,Θ,Θ,by rw[RelSs.length q2];exact rQ hz.1 hz.2.1,hy,((k.adv a1).adv W).sol Z (ry.adv Z)⟩
  |_=>cases U
noncomputable def Cj(t:Bool):CO->ζ CO
 |.e _=>if t then ψ else ς (.e [])
 |.dK _=>if t then ς (.dK [])else ψ
 |.dT _=>if t then ς (.dT [])else ψ
 |_=>ψ
noncomputable def sCl(t:Bool)(fa:Fg):Fs:=λδ ch=>(fa δ ch).bind λp=>match p.1 with
 |.ref i=>((p.2[i]?).bind (Cj t)).map λo=>.nx δ (p.2.set i o)
 |_=>ψ
theorem uU {t:Bool} (hx:GE G X o fa) (U:qj4 o "clear" X.env (eval o X.env)=eval o X.env) (O:(apos.endLine==cpos.line)=θ) (hsw:qj6 (.Call (.Attribute o "clear" apos) [] [] cpos) ψ pos.line X.env=pure ξ) :
  GS1 G X (.Expr (.Call (.Attribute o "clear" apos) [] [] cpos) pos) (sCl t fa):=by
 cases t with
 |false=>
  refine PS.mono (dq (mW PySem.F.plainAttrs_list PySem.F.slot_list_clear PySem.F.type_list_clear tp hx U O) hsw) λD σ H hq3=>?_
  have⟨Φ,δ,ch,F,ρ,og,en,hg,k⟩:=hq3;have⟨⟨c1,ch1⟩,h1,hg1⟩:=bS hg;cases c1 with
  |ref i=>
   have⟨w,h2,e2⟩:=mS hg1;cases e2;have⟨o,ho,h3⟩:=bS h2;refine⟨Φ,δ,ch,F,ρ,_,_,en,h1,λv F1 H1 ρ1 Y r1=>?_⟩;have⟨hi,rfl⟩:=r1.1;have W:=Y.gh.ok i o ho;cases o with
   |e l=>cases h3;have⟨vs,Z,_⟩:=W;exact⟨.inl ⟨rfl,vs,.inl (.inl Z)⟩,_,vs,rfl,rfl,Z,k σ F1 _ ρ1 ((en.adv Y).adv (.put (o:=.e []) Y.gh ho trivial ⟨_,ac,.nil⟩))⟩
   |_=>cases h3
  |_=>cases hg1
 |true=>
  refine PS.mono (dq (mW PySem.F.plainAttrs_dict PySem.F.slot_dict_clear PySem.F.type_dict_clear yl hx U O) hsw) λD σ H hq4=>?_
  have⟨Φ,δ,ch,F,ρ,og,en,hg,k⟩:=hq4;have⟨⟨c1,ch1⟩,h1,hg1⟩:=bS hg;cases c1 with
  |ref i=>
   have⟨w,h2,e2⟩:=mS hg1;cases e2;have⟨o,ho,h3⟩:=bS h2;refine⟨Φ,δ,ch,F,ρ,_,_,en,h1,λv F1 H1 ρ1 Y r1=>?_⟩;have⟨hi,rfl⟩:=r1.1;have W:=Y.gh.ok i o ho;cases o with
   |dK l=>cases h3;have⟨_,J1,Z,_⟩:=W;exact⟨.inr (.inr (.inl ⟨rfl,.inl ⟨_,Z⟩⟩)),_,rfl,rfl,.inr ⟨⟨_,Z⟩,k σ F1 _ ρ1 ((en.adv Y).adv (.put (o:=.dK []) Y.gh ho trivial ⟨qy1,_,ac,rfl,.nil⟩))⟩⟩
   |dT l=>cases h3;have⟨_,J1,Z,_⟩:=W;exact⟨.inr (.inr (.inl ⟨rfl,.inr ⟨_,Z⟩⟩)),_,rfl,rfl,.inl ⟨⟨_,Z⟩,k σ F1 _ ρ1 ((en.adv Y).adv (.put (o:=.dT []) Y.gh ho trivial ⟨qy1,_,ac,rfl,.nil⟩))⟩⟩
   |_=>cases h3
  |_=>cases hg1
noncomputable def sCs(i:Nat):Fs:=λδ ch=>match cG δ i with
 |some (.e _)=>ς (.nx (δ.set i (ς (.own θ (.e [])))) ch)
 |_=>ψ
def bY(ch:CH):CV->ζ (Key×CV)
 |.g (.t [k,d])=>(cJ k).map λk=>(k,.g d)
 |.ref j=>match ch[j]? with
  |some (.t [.g k,c])=>(cJ k).map λk=>(k,c)
  |_=>ψ
 |_=>ψ
def aT(ch:CH):η CV->ζ (η (Key×CV))
 |[]=>ς []
 |c::l=>(bY ch c).bind λp=>(aT ch l).map (p::·)
omit x in
theorem uV(g:Gh G F H ρ ch){p:Key×CV}(h:bY ch c=ς p)(r:RelS G F ρ ch.length c v):∃t u,v=.ref t/\SqT G.K H t [kV p.1,u]/\RelS G F ρ ch.length p.2 u:=by
 unfold bY at h;split at h
 .rename_i k d;have⟨Z,O,rfl⟩:=mS h;have r:Rep G.K F (.t [k,d]) v:=r;rwa[Rep,Reps]at r;have⟨t,vs,rfl,h1,x,ws,rfl,U,y,Y,rfl,W,rfl⟩:=r;have:=cr (RepB.of g.fh (show Rep G.K F _ _ from U)) O;subst this;exact⟨t,y,rfl,g.fh.tup h1,W⟩
 .rename_i j;rcases h
  rename_i k c' hj;have⟨Z,O,rfl⟩:=mS h;have⟨vs,h1,h2⟩:=g.ok j _ hj;obtain _|⟨U,_|⟨W,_|_⟩⟩:=h2;have:=cr (RepB.of g.fh (show Rep G.K F _ _ from U)) O;subst this;exact⟨_,_,r.2,SqT.of h1,W⟩
 .cases h
theorem jE(g:Gh G F H ρ ch):∀{l:η CV}{vs:η V}{ps:η (Key×CV)},aT ch l=ς ps->RelSs G F ρ ch.length l vs->∃O:η (Key×V),vs.length=O.length/\O.map (·.1)=ps.map (·.1)/\RelSs G F ρ ch.length (ps.map (·.2)) (O.map (·.2))/\∀(j:Nat)(q:Key×V),O[j]?=ς q->∃t,vs[j]?=ς (.ref t)/\SqT G.K H t [kV q.1,q.2]
 |[],_,ps,h,.nil=>by cases h;exact⟨[],rfl,rfl,.nil,λj q U=>by simp at U⟩
 |c::l,_,ps,h,.cons r1 r2=>by
  have⟨p,hp,h⟩:=bS h;have⟨Z,W,rfl⟩:=mS h;have⟨t,u,rfl,h1,h2⟩:=uV g hp r1;have⟨O,q1,q2,Y,q4⟩:=jE g W r2;refine⟨(p.1,u)::O,by simp[q1],by simp[q2],.cons h2 Y,λj q U=>?_⟩;cases j with
  |zero=>simp at U;subst U;exact⟨t,rfl,h1⟩
  |succ j=>simpa using q4 j q ‹U›
noncomputable def l4(ch:CH):CV->ζ (η CV)
 |.ref i=>match ch[i]? with
  |some (.e l)=>ς l
  |some (.t l)=>ς l
  |_=>ψ
 |.g (.e l)=>ς (l.map .g)
 |.g (.t l)=>ς (l.map .g)
 |.own _ (.e l)=>ς (l.map .g)
 |_=>ψ
omit x in
theorem yn{l:η CV}(g:Gh G F H ρ ch)(r:RelC G F H ρ ch.length c v)(h:l4 ch c=ς l):∃a vs b,v=.ref a/\SqB b G.K H a vs/\RelSs G F ρ ch.length l vs:=by
 unfold l4 at h;split at h
 .split at h<;>cases h
  .rename_i i _ hl;have⟨vs,h1,h2⟩:=g.ok i _ hl;exact⟨_,vs,θ,r.2,SqL.of h1,h2⟩
  .rename_i i _ hl;have⟨vs,h1,h2⟩:=g.ok i _ hl;exact⟨_,vs,ξ,r.2,SqT.of h1,h2⟩
 .cases h;rwa[RelC,RelS,Rep]at r;have⟨a,vs,rfl,h1,h2⟩:=r;exact⟨a,vs,θ,rfl,g.fh.seq h1,RelSs.dats h2⟩
 .cases h;rwa[RelC,RelS,Rep]at r;have⟨a,vs,rfl,h1,h2⟩:=r;exact⟨a,vs,ξ,rfl,g.fh.tup h1,RelSs.dats h2⟩
 .cases h;have⟨a,rfl,_,⟨b,vs,e,rfl,h1,h2⟩,_⟩:=r;exact⟨_,vs,θ,rfl,SqL.of h1,RelSs.dats h2⟩
 .cases h
theorem kG{k:Key}(h:k∉J1.map (·.1)):bp J1 k=ψ:=by
 cases q:bp J1 k with
 |none=>rfl
 |some v=>exact absurd (xg q) h
theorem dS:∀{ps J1:η (Key×V)},((J1++ps).map (·.1)).Nodup->aV J1 ps=J1++ps
 |[],J1,_=>by simp[aV]
 |p::ps,J1,h=>by
  have O:p.1∉J1.map (·.1):=λz=>by rw[qd6]at h;exact(qe8.mp h).2.2 p.1 z p.1 Ξ rfl
  rwa[aV];rw[tq _ (kG O),dS ‹h›];simp
def l5(m:Md)(ps:η (Key×CV))(ch:CH):ζ (CV×CH):=match dats (ps.map (·.2))with
 |some ds=>fin m ch (.dct ((ps.map (·.1)).zip ds))
 |none=>if(ps.map (·.2)).all CV.sol then ς (.ref ch.length,ch++[.dK ps])else ψ
def eDc(m:Md)(fa:Fg):Fg:=λδ ch=>(fa δ ch).bind λp=>(l4 p.2 p.1).bind λl=>(aT p.2 l).bind λps=>if(ps.map (·.1)).Nodup then l5 m ps p.2 else ψ
theorem yo{l:η (Key×Dt)}{p:J4}{Q:VK}(k:KO K F H (.dct l) Q)(O:Same F H)(U:J1.map (·.1)=l.map (·.1))(r:Reps K F (l.map (·.2)) (J1.map (·.2)))(hp:H p=ψ):Q (.ref p) (upd H p (.dK J1)):=k _ _ F (λb=>b=p) (Step.made O hp) ⟨p,J1,rfl,rfl,ac,U,r⟩ λb z=>by subst z;exact⟨O.free hp,hp,_,ac,nofun⟩
omit x in
theorem yp(h:aL sc "dict"=θ)(hK:X.K=G.K)(hc:X.calm=θ)(hm:X.mg "dict"=ψ)(ha:GE G X a fa)(e1:aY X sc)(he:qb3 [a] X.env=(ξ,eval a X.env)::qb3 [] X.env):GE G X (.Call (.Name "dict" p) [a] [] pos) (eDc m fa):=
 PE.mono (dM h (nB hc) hm rfl (bf ha ck he) e1 he rfl) λσ H Q W=>by
  have⟨Φ,δ,ch,F,ρ,c,ch',en,hf,k⟩:=W;have⟨q,h1,Y⟩:=bS hf;have⟨l,h2,Z⟩:=bS Y;have⟨ps,h3,O⟩:=bS Z;rcases O
  rename_i nd;refine⟨Φ,δ,ch,F,ρ,_,_,en,h1,λv F1 H1 ρ1 U r1=>?_⟩;have⟨x,vs,b,rfl,hq,hr⟩:=yn U.gh r1.1 h2;have⟨qs,q1,q2,q3,q4⟩:=jE U.gh h3 hr;rw[hK];refine⟨x,vs,qs,rfl,⟨b,hq⟩,q1,q4,λy hy=>?_⟩;have e:aV [] qs=qs:=by rw[dS (by simpa[q2] using nd)];simp
  rw[e];unfold l5 at O;split at O
  .rename_i ds hd;have hlen:(ps.map (·.1)).length=ds.length:=by have:=congrArg qj0 (cq hd);simpa using this
   exact yo (bE U.gh O (k.adv U)) U.gh.fh (by rw[q2,za6 Θ]) (by rw[List.map_snd_zip Θ];exact aW hd q3) hy
  .split at O<;>cases O
   exact km (o:=.dK ps) U.gh hy ⟨nd,qs,ac,q2,q3⟩ (k.adv U)
def rUpd:V->η V->Hp->VK->Prop:=λx vs H Q=>∃d o J1 more,x=.ref d/\vs=[.ref o]/\d≠o/\H d=ς (.dK J1)/\H o=ς (.dK more)/\J1.length+more.length<=qa5/\Q .non (upd H d (.dK (aV J1 more)))
theorem ig:∀(ps J1:η (Key×Value)),merged J1 ps=bX J1 ps
 |[],J1=>rfl
 |p::ps,J1=>ig ps _
theorem Ck:MtM X "dict.update" rUpd:=by
 intro J0 s σ H x vs v us Q I rx rv h;have⟨d,o,J1,more,rfl,rfl,W,Z,ho,hz,q⟩:=h;cases rx;have⟨u,rfl,ru⟩:=rv.one;cases ru;have⟨z1,y1,O,k1,D1⟩:=I.hok d _ Z;have⟨z2,y2,Y,k2,D2⟩:=I.hok o _ ho;have l1:=k1.length;have l2:=k2.length
 refine zc3 PySem.F.slot_dict_update (show Heap.DictOf (aj X.prog X.w) s.heap d O from D1).typeIs PySem.F.entry_dict_update (PySem.F.args_dict_update_2 _ _) (meets_dict_update (aj X.prog X.w) d o W y2)
  ⟨O,Y,D1,D2,Θ,λh' hm _ hs=>?_⟩
 have U:=KV.all k2 k1;have⟨od,es,ep,e1,rest⟩:=id hm;refine⟨.non,_,I.write (x:=d) (e:=d) (o:=.dK (aV J1 more)) (h':=h') (t':=s.toks) (by rw[Z];trivial) (.inl rfl) (λb u hb hu=>(hs.2 b hb).trans hu) ⟨od,e1⟩ ⟨?_,y1,_,U,?_⟩,rfl,q⟩
 .have:=dQ more J1;lia
 .rw[<- ig];exact hm
noncomputable def gu(ch:CH)(i:Nat):ζ (η (Key×CV)):=match ch[i]? with
 |some (.dK l)=>ς l
 |_=>ψ
theorem eQ{l:η (Key×CV)}(h:gu ch i=ς l):ch[i]?=ς (.dK l):=by
 unfold gu at h;split at h<;>cases h
 assumption
def sUp(fa fe:Fg):Fs:=λδ ch=>(fa δ ch).bind λp=>(fe δ p.2).bind λq=>match p.1,q.1 with
 |.ref i,.ref j=>(gu p.2 i).bind λ_=>(gu q.2 i).bind λl=>(gu q.2 j).bind λn=>if i≠j/\((l++n).map (·.1)).Nodup/\l.length+n.length<=qa5 then ς (.nx δ (q.2.set i (.dK (l++n))))else ψ
 |_,_=>ψ
omit x in
theorem rR(hx:GE G X o fa)(he:GE G X e fe)(A:AsM X o "update" apos [e] cpos)(hsw:qj6 (.Call (.Attribute o "update" apos) [e] [] cpos) ψ pos.line X.env=pure ξ):GS1 G X (.Expr (.Call (.Attribute o "update" apos) [e] [] cpos) pos) (sUp fa fe):=
 PS.mono (dq (lE PySem.F.plainAttrs_dict PySem.F.slot_dict_update PySem.F.type_dict_update Ck hx (bf he ck (A.star _ _ rfl).1) A.base A.few A.line (A.star _ _ rfl).1 (A.star _ _ rfl).2) hsw) λD σ H hq7=>by
  have⟨Φ,δ,ch,F,ρ,og,en,hg,k⟩:=hq7;have⟨⟨c1,ch1⟩,h1,hg1⟩:=bS hg;have⟨⟨c2,ch2⟩,h2,hg2⟩:=bS hg1;clear hg hg1;dsimp only at h2 hg2;rcases hg2
  rename_i i j;have⟨l0,h3,hg3⟩:=bS hg2;have⟨l,h4,hg4⟩:=bS hg3;have⟨n,h5,W⟩:=bS hg4;split at W<;>cases W
  rename_i hz;refine⟨Φ,δ,ch,F,ρ,_,_,en,h1,λv F1 H1 ρ1 a1 r1=>?_⟩;have⟨_,vs0,q0,_⟩:=a1.gh.ok i _ (eQ h3);have⟨hi,rfl⟩:=r1.1;refine⟨.inr (.inr (.inl ⟨rfl,.inl ⟨_,q0⟩⟩)),Φ,δ,_,F1,ρ1,_,_,en.adv a1,h2,λw F2 H2 ρ2 U r2=>?_⟩;have⟨_,O,q1,q2,q3⟩:=U.gh.ok i _ (eQ h4);have⟨_,kv2,p1,p2,p3⟩:=U.gh.ok j _ (eQ h5);have⟨hj,rfl⟩:=r2.1;have Y:ρ2 i=ρ1 i:=U.ext i hi;have e1:=yg q2;have e2:=yg p2;have ep:aV O kv2=O++kv2:=dS (by rw[qd6,q2,p2,<- qd6];exact hz.2.1);have a3:Adv G F2 H2 ρ2 ch2 F2 _ ρ2 _:=.put (o:=.dK (l++n)) (u:=.dK (O++kv2)) U.gh (eQ h4) trivial ⟨hz.2.1,_,ac,by simp[q2,p2],by rw[qd6,qd6];exact Paired.app q3 p3⟩;have Z:ρ1 i≠ρ2 j:=λe=>hz.1 (U.gh.inj i j (ai (eQ h4)) hj (by rw[Y,e]))
  rw[Y]at q1 a3;refine⟨_,_,O,kv2,rfl,rfl,Z,q1,p1,Θ,?_⟩;rw[ep];exact k σ F2 _ ρ2 (((en.adv a1).adv U).adv a3)
end
structure Op2 where
 op:qq2 ⊕ CmpOp
 g:Dt->Dt->Option T
 ok:∀(K:xA9)(X:Cx)(k:Nat),X.K=K->Room k X.A->dO K=θ->∃r,OpR X (match op with|.inl o=>qi0 o|.inr o=>qe2 o) r/\R2D K r g
structure Bf where
 nm:Str
 fv:String ⊕ String
 bt:qg0 nm=ς (fv.elim .builtin .type)
 g:List Dt->Option T
 ok:∀(K:xA9)(X:Cx)(k:Nat),X.K=K->X.calm=θ->Room k X.A->∃r,CallR X (fv.elim .builtin .type) r/\CRD K r g
structure Ms where
 nm:Str
 id:String
 slot:Slot "str" nm id
 ty:typeOf (.builtin id)=pure (.type "method_descriptor")
 g:Dt->List Dt->Option T
 ok:∀(K:xA9)(X:Cx),X.K=K->∃r,MtR X id r/\MRD K r g
structure Ia where
 op:qq2
 f:Int->Int->Int
 ok:∀X:Cx,PIp X op (ipI f)
set_option backward.match.sparseCases false
inductive E where
 |k (d:Dt)|v (i:Nat)|g (j:Nat)
 |b2 (o:Op2) (m:Md) (a b:E)
 |nt (a:E)|ng (a:E)|an (a b:E)|cd (c a b:E)
 |tr (a:E)|tn (a:E)|ta (a b:E)|to (a b:E)
 |bn (o:Bf) (m:Md) (as:E)|ii (c:String) (a:E)|ms (o:Ms) (m:Md) (a as:E)|gt (a k e:E)
 |ca (j:Nat) (as:E)|me (j:Nat) (o as:E)|mk (j:Nat) (as:E)
 |at (c f:Nat) (o:E)|ix (a b:E)|sl (m:Md) (a lo hi:E)|no
 |ls (m:Md) (as:E)|tu (as:E)|dn (m:Md) (t:Bool)|il (m:Md) (a:E)|pp (a b:E)|dc (m:Md) (a:E)
 |co (m:Md) (src:List (Option Nat)) (pt:Pt) (it c e:E)|ys
 |it (a:E)|rg (as:E)|en (a:E)
 |nil|cons (a as:E)
inductive En where
 |fn (x:Str) (n:Nat) (F:Fd)|me (c:Nat) (m:Str) (n:Nat) (F:Fd)|mk (c:Nat) (n:Nat) (F:Fd)
structure Tb where
 f:List En
 gc:List (Str×Dt)
noncomputable def nF:Fg:=λ_ _=>ψ
noncomputable def uW:E->Nat
 |.cons _ as=>uW as+1
 |_=>0
noncomputable def gcE:ζ (Str×Dt)->Fg
 |some p=>eK p.2
 |none=>nF
def caE(as:FM (η CV)):ζ En->Fg
 |some (.fn _ n F)=>eCa n F as
 |_=>nF
def meE(o:Fg)(as:FM (η CV)):ζ En->Fg
 |some (.me c _ n F)=>eMe c n F o as
 |_=>nF
def mkE(as:FM (η CV)):ζ En->Fg
 |some (.mk c n F)=>eMk c n F as
 |_=>nF
mutual
def evE(tb:Tb):E->Fg
 |.k d=>eK d
 |.v i=>eV i
 |.g j=>gcE tb.gc[j]?
 |.b2 o m a b=>e2 m o.g (evE tb a) (evE tb b)
 |.nt a=>eNt (evE tb a)
 |.ng a=>eNg (evE tb a)
 |.an a b=>eAn (evE tb a) (evE tb b)
 |.cd c a b=>eIf (evT tb c) (evE tb a) (evE tb b)
 |.bn o m as=>eB m o.g (evA tb as)
 |.ii c a=>eIs c (evE tb a)
 |.ms o m a as=>eMt m o.g (evE tb a) (evA tb as)
 |.gt a k e=>eGt (evE tb a) (evE tb k) (evE tb e)
 |.ca j as=>caE (evA tb as) tb.f[j]?
 |.me j o as=>meE (evE tb o) (evA tb as) tb.f[j]?
 |.mk j as=>mkE (evA tb as) tb.f[j]?
 |.at c f o=>eAt c f (evE tb o)
 |.ix a b=>eIx (evE tb a) (evE tb b)
 |.sl m a lo hi=>eSl m (evE tb a) (evO tb lo) (evO tb hi)
 |.ls m as=>eLs m (evA tb as)
 |.tu as=>eTu (evA tb as)
 |.dn m t=>eDn m t
 |.il m a=>eIl m (evE tb a)
 |.pp a b=>rP (evE tb a) (evE tb b)
 |.dc m a=>eDc m (evE tb a)
 |.co m src pt it c e=>eCo m src (evI tb it) (bnd pt) (evT tb c) (evE tb e)
 |_=>nF
def evO(tb:Tb):E->ζ Fg
 |.no=>ψ
 |.cons a _=>ς (evE tb a)
 |_=>ς nF
def evT(tb:Tb):E->FM Bool
 |.tr (.b2 o m a b)=>iQ (e2 m o.g (evE tb a) (evE tb b))
 |.tr a=>hW (evE tb a)
 |.tn a=>tNt (evT tb a)
 |.ta a b=>tAn (evT tb a) (evT tb b)
 |.to a b=>uk (evT tb a) (evT tb b)
 |.ys=>tYs
 |_=>λ_ _=>ψ
def evA(tb:Tb):E->FM (η CV)
 |.nil=>aNl
 |.cons a as=>aCn (evE tb a) (evA tb as)
 |_=>λ_ _=>ψ
def evI(tb:Tb):E->FM (η Dt)
 |.it a=>iE (evE tb a)
 |.rg as=>iR (uW as) (evA tb as)
 |.en a=>iN (evE tb a)
 |_=>λ_ _=>ψ
end
inductive S where
 |nil|sq (s ss:S)|fz (i:Nat) (ss:S)
 |set (i:Nat) (e:E)|un (pt:Pt) (e:E)|put (a k e:E)|pts (i:Nat) (k e:E)|fl (c f:Nat) (o e:E)|fa (c f:Nat) (o:Ia) (a e:E)|au (i:Nat) (o:Ia) (e:E)
 |dr (e:E)|ap (a e:E)|aps (i:Nat) (e:E)|cl (t:Bool) (a:E)|up (a e:E)
 |rt (e:E)|rn
 |cd (c:E) (a b:S)|fo (pt:Pt) (it:E) (b:S)|wh (n:Nat) (c:E) (b:S)
def evS(tb:Tb):S->Fs
 |.nil=>gr
 |.sq s ss=>aZ (evS tb s) (evS tb ss)
 |.fz i ss=>sFz i (evS tb ss)
 |.set i e=>iS i (evE tb e)
 |.un pt e=>sUn pt (evE tb e)
 |.put a k e=>sPt (evE tb a) (evE tb k) (evE tb e)
 |.pts i k e=>sPs i (evE tb k) (evE tb e)
 |.fl c f o e=>sFl c f (evE tb o) (evE tb e)
 |.fa c f o a e=>sFa c f o.f (evE tb a) (evE tb e)
 |.au i o e=>sAu i o.f (evE tb e)
 |.dr e=>sDr (evE tb e)
 |.ap a e=>sAp (evE tb a) (evE tb e)
 |.aps i e=>sAs i (evE tb e)
 |.cl t a=>sCl t (evE tb a)
 |.up a e=>sUp (evE tb a) (evE tb e)
 |.rt e=>sRt (evE tb e)
 |.rn=>sRn
 |.cd c a b=>sIf (evT tb c) (evS tb a) (evS tb b)
 |.fo pt it b=>rA (evI tb it) (bnd pt) (evS tb b)
 |.wh n c b=>whZ (evT tb c) (evS tb b) n
section
variable{tb:Tb}
theorem zk0{d}:evE tb (.k d)=eK d:=rfl
theorem zk1{i}:evE tb (.v i)=eV i:=rfl
theorem zk2{j}:evE tb (.g j)=gcE tb.gc[j]?:=rfl
theorem zk3{o m a b}:evE tb (.b2 o m a b)=e2 m o.g (evE tb a) (evE tb b):=rfl
theorem zk4{a}:evE tb (.nt a)=eNt (evE tb a):=rfl
theorem zk5{a}:evE tb (.ng a)=eNg (evE tb a):=rfl
theorem zk6{a b}:evE tb (.an a b)=eAn (evE tb a) (evE tb b):=rfl
theorem zk7{c a b}:evE tb (.cd c a b)=eIf (evT tb c) (evE tb a) (evE tb b):=rfl
theorem zk8{o m x}:evE tb (.bn o m x)=eB m o.g (evA tb x):=rfl
theorem zk9{c a}:evE tb (.ii c a)=eIs c (evE tb a):=rfl
theorem zk10{o m a x}:evE tb (.ms o m a x)=eMt m o.g (evE tb a) (evA tb x):=rfl
theorem zk11{a k e}:evE tb (.gt a k e)=eGt (evE tb a) (evE tb k) (evE tb e):=rfl
theorem zk12{j x}:evE tb (.ca j x)=caE (evA tb x) tb.f[j]?:=rfl
theorem zk13{j o x}:evE tb (.me j o x)=meE (evE tb o) (evA tb x) tb.f[j]?:=rfl
theorem zk14{j x}:evE tb (.mk j x)=mkE (evA tb x) tb.f[j]?:=rfl
theorem zk15{c f o}:evE tb (.at c f o)=eAt c f (evE tb o):=rfl
theorem zk16{a b}:evE tb (.ix a b)=eIx (evE tb a) (evE tb b):=rfl
theorem zk17{m a l h}:evE tb (.sl m a l h)=eSl m (evE tb a) (evO tb l) (evO tb h):=rfl
theorem zk18{m x}:evE tb (.ls m x)=eLs m (evA tb x):=rfl
theorem zk19{x}:evE tb (.tu x)=eTu (evA tb x):=rfl
theorem zk20{m t}:evE tb (.dn m t)=eDn m t:=rfl
theorem zk21{m a}:evE tb (.il m a)=eIl m (evE tb a):=rfl
theorem zk22{a b}:evE tb (.pp a b)=rP (evE tb a) (evE tb b):=rfl
theorem zk23{m a}:evE tb (.dc m a)=eDc m (evE tb a):=rfl
theorem zk24{m s p i c e}:evE tb (.co m s p i c e)=eCo m s (evI tb i) (bnd p) (evT tb c) (evE tb e):=rfl
theorem zk25:evO tb .no=ψ:=rfl
theorem zk26{a b}:evO tb (.cons a b)=ς (evE tb a):=rfl
theorem zk27{o m a b}:evT tb (.tr (.b2 o m a b))=iQ (e2 m o.g (evE tb a) (evE tb b)):=rfl
theorem zk28{j x}:evT tb (.tr (.ca j x))=hW (evE tb (.ca j x)):=rfl
theorem zk29{c a}:evT tb (.tr (.ii c a))=hW (evE tb (.ii c a)):=rfl
theorem zk30{a b}:evT tb (.tr (.ix a b))=hW (evE tb (.ix a b)):=rfl
theorem zk31{j o x}:evT tb (.tr (.me j o x))=hW (evE tb (.me j o x)):=rfl
theorem zk32{a}:evT tb (.tn a)=tNt (evT tb a):=rfl
theorem zk33{a b}:evT tb (.ta a b)=tAn (evT tb a) (evT tb b):=rfl
theorem zk34{a b}:evT tb (.to a b)=uk (evT tb a) (evT tb b):=rfl
theorem zk35:evT tb .ys=tYs:=rfl
theorem zk36:evA tb .nil=aNl:=rfl
theorem zk37{a x}:evA tb (.cons a x)=aCn (evE tb a) (evA tb x):=rfl
theorem zk38{a}:evI tb (.it a)=iE (evE tb a):=rfl
theorem zk39{x}:evI tb (.rg x)=iR (uW x) (evA tb x):=rfl
theorem zk40{a}:evI tb (.en a)=iN (evE tb a):=rfl
theorem zk41:evS tb .nil=gr:=rfl
theorem zk42{s ss}:evS tb (.sq s ss)=aZ (evS tb s) (evS tb ss):=rfl
theorem zk43{i ss}:evS tb (.fz i ss)=sFz i (evS tb ss):=rfl
theorem zk44{i e}:evS tb (.set i e)=iS i (evE tb e):=rfl
theorem zk45{pt e}:evS tb (.un pt e)=sUn pt (evE tb e):=rfl
theorem zk46{a k e}:evS tb (.put a k e)=sPt (evE tb a) (evE tb k) (evE tb e):=rfl
theorem zk47{c f o e}:evS tb (.fl c f o e)=sFl c f (evE tb o) (evE tb e):=rfl
theorem zk48{c f o a e}:evS tb (.fa c f o a e)=sFa c f o.f (evE tb a) (evE tb e):=rfl
theorem zk49{i o e}:evS tb (.au i o e)=sAu i o.f (evE tb e):=rfl
theorem zk50{e}:evS tb (.dr e)=sDr (evE tb e):=rfl
theorem zk51{a e}:evS tb (.ap a e)=sAp (evE tb a) (evE tb e):=rfl
theorem zk52{i e}:evS tb (.aps i e)=sAs i (evE tb e):=rfl
theorem zk53{t a}:evS tb (.cl t a)=sCl t (evE tb a):=rfl
theorem zk54{a e}:evS tb (.up a e)=sUp (evE tb a) (evE tb e):=rfl
theorem zk55{e}:evS tb (.rt e)=sRt (evE tb e):=rfl
theorem zk56:evS tb .rn=sRn:=rfl
theorem zk57{c a b}:evS tb (.cd c a b)=sIf (evT tb c) (evS tb a) (evS tb b):=rfl
theorem zk58{pt it b}:evS tb (.fo pt it b)=rA (evI tb it) (bnd pt) (evS tb b):=rfl
theorem zk59{n c b}:evS tb (.wh n c b)=whZ (evT tb c) (evS tb b) n:=rfl
end
end L2
namespace L2
open PySem PySem.Spec PyProof.Rows
theorem noT{p:Prop}(h:ξ=θ):p:=by cases h
structure Lw where
 bl:List Str
 ct:List (Str×List Str)
 ks:List String
structure Sc where
 sc:J9
 N:List Str
noncomputable def cst(e:J8):Dt->Bool
 |.int j=>(match e with|.Constant (.int i) _ _=>i==j|_=>ξ)
 |.str y=>(match e with|.Constant (.str x) _ _=>x==y|_=>ξ)
 |.bl c=>(match e with|.Constant (.bool b) _ _=>b==c|_=>ξ)
 |.non=>(match e with|.Constant .none _ _=>θ|_=>ξ)
 |_=>ξ
noncomputable def ax:J8->Bool
 |.Starred _ _=>ξ
 |_=>θ
noncomputable def aU:J8->Bool
 |.Call (.Name _ _) [] [] _=>ξ
 |_=>θ
noncomputable def eR:J8->Bool
 |.Slice _ _ _ _=>ξ
 |_=>θ
noncomputable def ij:J8->Bool
 |.ListComp _ _ _ _|.SetComp _ _ _ _|.DictComp _ _ _ _ _=>ξ
 |_=>θ
noncomputable def uX:J8->Bool
 |.Set _ _ _=>ξ
 |_=>θ
noncomputable def Eu:J8->Bool
 |.Tuple _ _ _|.List _ _=>ξ
 |_=>θ
variable{m:Str}{apos:Pos}
section
variable{e o:J8}{es:η J8}{env:Env}{pos:Pos}
theorem aC(h:ax e=θ):qb3 (e::es) env=(ξ,eval e env)::qb3 es env:=by cases e<;>first|rfl|exact noT h
theorem bo:∀{es:η J8},es.all ax=θ->(qi3 pos (qb3 es env)).any (·.1)=ξ
 |[],_=>rfl
 |e::es,h=>by rwa[qd4,qa1]at h;rw[aC h.1];show(ξ||(qi3 pos (qb3 es env)).any (·.1))=ξ;rw[bo h.2];rfl
theorem l6:∀{es:η J8},es.all ax=θ->(qi3 pos (qb3 es env)).all (λx=>!x.1)=θ
 |[],_=>rfl
 |e::es,h=>by rwa[qd4,qa1]at h;rw[aC h.1];show(!false&&(qi3 pos (qb3 es env)).all (λx=>!x.1))=θ;rw[l6 h.2];rfl
theorem base_of(h:aU o=θ):qj4 o m env (eval o env)=eval o env:=by
 cases o with
 |Call f a k p=>cases f<;>cases a<;>cases k<;>first|rfl|exact noT h
 |_=>rfl
theorem nE(h:eR e=θ):jU e:=λa i=>by cases e<;>first|rfl|exact noT h
theorem im{t:ζ J8}{n:Nat}(h:ij e=θ):qj6 e t n env=pure ξ:=by cases e<;>first|rfl|exact noT h
theorem kJ(h:uX e=θ)(x:Value):qh6 e env x=pure x:=by cases e<;>first|rfl|exact noT h
theorem kL (h:es.all ax=θ) (O:es.length<30):((qi3 pos (qb3 es env)).all (λx=>!x.1)&&(qp6 pos (qi9 [] env)).all (λx=>x.1.isSome)
      && decide (es.length+([]:η qy0).length+(if([]:η qy0).isEmpty then 0 else 1)<30))=θ:=by
 rw[l6 h];rwa[qf6,zf7,qz8];rw[show(qp6 pos (qi9 [] env)).all (λx=>x.1.isSome)=θ from rfl,qz8];exact decide_eq_true O
theorem rS (hb:aU o=θ) (U:es.all ax=θ) (O:es.length<30) (hl:(apos.endLine==pos.line)=θ) :
  ∃pl,eval (.Call (.Attribute o m apos) es [] pos) env=(do
   let ov <- eval o env
   qx8 apos.atName
   let (f,first) <- qo5 [ov] (qw2 ov m pl)
   zd0 pos f first (qi3 pos (qb3 es env)) (qp6 pos (qi9 [] env))):=by
 refine⟨do return (<- importBound o env).getD θ,?_⟩;have W:methodCallForm (es.length+([]:η qy0).length) (qi3 pos (qb3 es env)) (qp6 pos (qi9 [] env))=θ:=kL U O;rw[PySem.arm_eval_Call,base_of hb];unfold methodCall;rw[W];unfold calleeOf methodCallPos;rwa[hl,qs8,ze3,if_true,pure_bind]
end
def fNm(c:Sc)(inn:Bool)(i:Nat):J8->Bool
 |.Name x _=>bL c.sc c.N i x&&(if inn then loOk c.sc x else iP c.sc x)
 |_=>ξ
def yq(c:Sc)(inn:Bool):η Nat->η J8->Bool
 |[],[]=>θ
 |i::is,e::es=>fNm c inn i e&&yq c inn is es
 |_,_=>ξ
def fP(c:Sc)(inn:Bool):Pt->J8->Bool
 |.one i,e=>fNm c inn i e
 |.many is,.Tuple es _ _=>yq c inn is es
 |_,_=>ξ
noncomputable def bO(sc:J9):η Str:=sc.names.filterMap λy=>if y.2==.local||y.2==.cell||y.2==.free then ς y.1 else ψ
noncomputable def zO:J8->Bool
 |.Tuple _ _ _=>θ
 |_=>ξ
noncomputable def nG:J8->Bool
 |.UnaryOp .Not _ _|.BoolOp _ _ _|.IfExp _ _ _ _|.Compare _ _ _ _=>ξ
 |_=>θ
noncomputable def zP:E->Bool
 |.b2 _ _ _ _=>ξ
 |_=>θ
noncomputable def isYs:E->Bool
 |.ys=>θ
 |_=>ξ
variable{l:η J8}
section
variable{e:J8}{st:J6}
noncomputable def dxN(e:J8)(k:Str->Bool):Bool:=match e with|.Name x _=>k x|_=>ξ
theorem dxN.of{k:Str->Bool}(h:dxN e k=θ):∃x p,e=.Name x p/\k x=θ:=by cases e<;>first|exact⟨_,_,rfl,h⟩|exact noT h
noncomputable def dxC(e:J8)(k:J8->η J8->Pos->Bool):Bool:=match e with|.Call f ys [] p=>k f ys p|_=>ξ
theorem dxC.of{k:J8->η J8->Pos->Bool}(h:dxC e k=θ):∃f ys p,e=.Call f ys [] p/\k f ys p=θ:=by
 cases e with
 |Call f ys ks p=>cases ks<;>first|exact⟨_,_,_,rfl,h⟩|exact noT h
 |_=>exact noT h
noncomputable def dxA(e:J8)(k:J8->Str->Pos->Bool):Bool:=match e with|.Attribute x m p=>k x m p|_=>ξ
theorem dxA.of{k:J8->Str->Pos->Bool}(h:dxA e k=θ):∃x m p,e=.Attribute x m p/\k x m p=θ:=by cases e<;>first|exact⟨_,_,_,rfl,h⟩|exact noT h
noncomputable abbrev dxF(e:J8)(k:Str->η J8->Bool):Bool:=dxC e λf ys _=>dxN f λx=>k x ys
theorem dxF.of{k:Str->η J8->Bool}(h:dxF e k=θ):∃x q ys p,e=.Call (.Name x q) ys [] p/\k x ys=θ:=by have⟨f,ys,p,rfl,h⟩:=dxC.of h;have⟨x,q,rfl,h⟩:=dxN.of h;exact⟨x,q,ys,p,rfl,h⟩
noncomputable abbrev dxM(e:J8)(k:J8->Str->Pos->η J8->Pos->Bool):Bool:=dxC e λf ys p=>dxA f λx m ap=>k x m ap ys p
theorem dxM.of{k:J8->Str->Pos->η J8->Pos->Bool}(h:dxM e k=θ):∃x m ap ys p,e=.Call (.Attribute x m ap) ys [] p/\k x m ap ys p=θ:=by have⟨f,ys,p,rfl,h⟩:=dxC.of h;have⟨x,m,q,rfl,h⟩:=dxA.of h;exact⟨x,m,q,ys,p,rfl,h⟩
noncomputable def dxP(e:J8)(k:J8->qq2->J8->Bool):Bool:=match e with|.BinOp l o r _=>k l o r|_=>ξ
theorem dxP.of{k:J8->qq2->J8->Bool}(h:dxP e k=θ):∃l o r p,e=.BinOp l o r p/\k l o r=θ:=by cases e<;>first|exact⟨_,_,_,_,rfl,h⟩|exact noT h
noncomputable def dxV(l:η J8)(k:J8->Bool):Bool:=match l with|[x]=>k x|_=>ξ
theorem dxV.of{k:J8->Bool}(h:dxV l k=θ):∃x,l=[x]/\k x=θ:=by
 cases l with
 |nil=>exact noT h
 |cons x l=>cases l<;>first|exact⟨_,rfl,h⟩|exact noT h
noncomputable def dxW(l:η J8)(k:J8->J8->Bool):Bool:=match l with|x::l=>dxV l (k x)|_=>ξ
theorem dxW.of{k:J8->J8->Bool}(h:dxW l k=θ):∃x y,l=[x,y]/\k x y=θ:=by
 cases l with
 |nil=>exact noT h
 |cons x l=>have⟨y,rfl,h⟩:=dxV.of h;exact⟨x,y,rfl,h⟩
noncomputable def dxQ(e:J8)(k:J8->CmpOp->J8->Bool):Bool:=match e with|.Compare l [o] rs _=>dxV rs (k l o)|_=>ξ
theorem dxQ.of{k:J8->CmpOp->J8->Bool}(h:dxQ e k=θ):∃l o r p,e=.Compare l [o] [r] p/\k l o r=θ:=by
 cases e with
 |Compare l O U p=>
  cases O with
  |nil=>exact noT h
  |cons o O=>
   cases O with
   |nil=>have⟨y,rfl,h⟩:=dxV.of h;exact⟨_,_,_,_,rfl,h⟩
   |cons _ _=>exact noT h
 |_=>exact noT h
noncomputable def dxU(b:Bool)(e:J8)(k:J8->Bool):Bool:=match e with|.UnaryOp .Not x _=>b&&k x|.UnaryOp .USub x _=>!b&&k x|_=>ξ
theorem dxU.of{b:Bool}{k:J8->Bool}(h:dxU b e k=θ):∃x p,e=.UnaryOp (if b then .Not else .USub) x p/\k x=θ:=by
 cases e with
 |UnaryOp o x p=>cases o<;>cases b<;>first|exact⟨_,_,rfl,h⟩|exact noT h
 |_=>exact noT h
noncomputable def dxB(b:Bool)(e:J8)(k:J8->J8->Bool):Bool:=match e with
 |.BoolOp o (x::y::l) p=>(match o with|.And=>b|.Or=>!b)&&(match l with|[]=>k x y|z::r=>k x (.BoolOp o (y::z::r) p))
 |_=>ξ
theorem dxB.of{b:Bool}{k:J8->J8->Bool}(h:dxB b e k=θ):∃x y l p,e=.BoolOp (if b then .And else .Or) (x::y::l) p/\((l=[]/\k x y=θ)\/∃z r,l=z::r/\k x (.BoolOp (if b then .And else .Or) (y::z::r) p)=θ):=by
 cases e with
 |BoolOp o vs p=>
  cases vs with
  |nil=>exact noT h
  |cons x vs=>
   cases vs with
   |nil=>exact noT h
   |cons y l=>cases o<;>cases b<;>cases l<;>first|exact⟨_,_,_,_,rfl,.inl ⟨rfl,h⟩⟩|exact⟨_,_,_,_,rfl,.inr ⟨_,_,rfl,h⟩⟩|exact noT h
 |_=>exact noT h
noncomputable def dxI(e:J8)(k:J8->J8->J8->Bool):Bool:=match e with|.IfExp x y z _=>k x y z|_=>ξ
theorem dxI.of{k:J8->J8->J8->Bool}(h:dxI e k=θ):∃x y z p,e=.IfExp x y z p/\k x y z=θ:=by cases e<;>first|exact⟨_,_,_,_,rfl,h⟩|exact noT h
noncomputable def dxS(e:J8)(k:J8->J8->Pos->Bool):Bool:=match e with|.Subscript x y p=>k x y p|_=>ξ
theorem dxS.of{k:J8->J8->Pos->Bool}(h:dxS e k=θ):∃x y p,e=.Subscript x y p/\k x y p=θ:=by cases e<;>first|exact⟨_,_,_,rfl,h⟩|exact noT h
noncomputable def dxZ(e:J8)(k:ζ J8->ζ J8->Bool):Bool:=match e with|.Slice l h ψ _=>k l h|_=>ξ
theorem dxZ.of{k:ζ J8->ζ J8->Bool}(h:dxZ e k=θ):∃x y p,e=.Slice x y ψ p/\k x y=θ:=by
 cases e with
 |Slice x y z p=>cases z<;>first|exact⟨_,_,_,rfl,h⟩|exact noT h
 |_=>exact noT h
noncomputable def dxL(e:J8)(k:η J8->Bool):Bool:=match e with|.List ys _=>k ys|_=>ξ
theorem dxL.of{k:η J8->Bool}(h:dxL e k=θ):∃ys p,e=.List ys p/\k ys=θ:=by cases e<;>first|exact⟨_,_,rfl,h⟩|exact noT h
noncomputable def dxT(e:J8)(k:η J8->Bool):Bool:=match e with|.Tuple ys _ _=>k ys|_=>ξ
theorem dxT.of{k:η J8->Bool}(h:dxT e k=θ):∃ys q p,e=.Tuple ys q p/\k ys=θ:=by cases e<;>first|exact⟨_,_,_,rfl,h⟩|exact noT h
noncomputable def dxD(e:J8):Bool:=match e with|.Dict [] [] _=>θ|_=>ξ
theorem dxD.of(h:dxD e=θ):∃p,e=.Dict [] [] p:=by
 cases e with
 |Dict a b p=>cases a<;>cases b<;>first|exact⟨_,rfl⟩|exact noT h
 |_=>exact noT h
noncomputable def dxK(e:J8)(k:J8->J8->J8->η J8->J9->Bool):Bool:=match e with|.ListComp elt [⟨tg,iter,ifs,n⟩] scope _=>(n==0)&&k elt tg iter ifs scope|_=>ξ
theorem dxK.of{k:J8->J8->J8->η J8->J9->Bool}(h:dxK e k=θ):∃elt tg iter ifs scope p,e=.ListComp elt [⟨tg,iter,ifs,0⟩] scope p/\k elt tg iter ifs scope=θ:=by
 cases e with
 |ListComp elt gs scope p=>
  cases gs with
  |nil=>exact noT h
  |cons g gs=>
   have⟨tg,iter,ifs,n⟩:=g;cases gs with
   |nil=>have⟨q,h⟩:=qc7.mp h;obtain rfl:=beq_iff_eq.mp q;exact⟨_,_,_,_,_,_,rfl,h⟩
   |cons _ _=>exact noT h
 |_=>exact noT h
noncomputable def dxO{α:Type}(o:ζ α)(k:α->Bool):Bool:=match o with|some x=>k x|none=>ξ
theorem dxO.of{α:Type}{o:ζ α}{k:α->Bool}(h:dxO o k=θ):∃x,o=ς x/\k x=θ:=by cases o<;>first|exact⟨_,rfl,h⟩|exact noT h
end
noncomputable def caOk(x:Str)(ys:η J8):En->Bool
 |.fn y _ _=>y==x
 |_=>ξ
noncomputable def meOk(L:Lw)(m:Str):En->Bool
 |.me cl y _ _=>(y==m)&&dxO L.ct[cl]? λq=>!(q.2.contains m)
 |_=>ξ
noncomputable def mkOk(L:Lw)(x:Str):En->Bool
 |.mk cl _ _=>dxO L.ct[cl]? λq=>q.1==x
 |_=>ξ
mutual
def fE(L:Lw)(tb:Tb)(c:Sc):E->J8->Bool
 |.k d,e=>cst e d
 |.v i,e=>dxN e λx=>bL c.sc c.N i x
 |.g j,e=>dxN e λx=>aL c.sc x&&dxO tb.gc[j]? λp=>p.1==x
 |.b2 o _ a b,e=>(match o.op with
  |.inl op=>dxP e λl op' r=>decide (op'=op)&&fE L tb c a l&&fE L tb c b r
  |.inr op=>dxQ e λl op' r=>decide (op'=op)&&!behindInMarks op' r&&fE L tb c a l&&fE L tb c b r)
 |.nt a,e=>dxU θ e λx=>fE L tb c a x
 |.ng a,e=>dxU ξ e λx=>fE L tb c a x
 |.an a b,e=>dxB θ e λx y=>fE L tb c a x&&fE L tb c b y
 |.cd t a b,e=>dxI e λx y z=>fT L tb c t x&&fE L tb c a y&&fE L tb c b z
 |.bn o _ as,e=>dxF e λx ys=>!ys.isEmpty&&(x==o.nm)&&aL c.sc x&&L.bl.contains x&&ys.all ax&&fA L tb c as ys
 |.ii cn a,e=>dxF e λf ys=>dxW ys λx u=>dxN u λt=>(f==("isinstance":Str))&&aL c.sc f&&L.bl.contains f&&aL c.sc t&&L.bl.contains t&&(qg0 t==ς (.type cn))&&L.ks.contains cn&&ax x&&fE L tb c a x
 |.ms o _ a as,e=>dxM e λx m ap ys p=>!ys.isEmpty&&(m==o.nm)&&(ap.endLine==p.line)&&aU x&&ys.all ax&&decide (ys.length<30)&&fE L tb c a x&&fA L tb c as ys
 |.gt a k d,e=>dxM e λx m ap ys p=>dxW ys λy z=>(m==("get":Str))&&(ap.endLine==p.line)&&aU x&&ax y&&ax z&&fE L tb c a x&&fE L tb c k y&&fE L tb c d z
 |.ca j as,e=>dxF e λx ys=>dxO tb.f[j]? (caOk x ys)&&aL c.sc x&&ys.all ax&&fA L tb c as ys
 |.me j o as,e=>dxM e λx m ap ys p=>dxO tb.f[j]? (meOk L m)&&(ap.endLine==p.line)&&aU x&&ys.all ax&&decide (ys.length<30)&&fE L tb c o x&&fA L tb c as ys
 |.mk j as,e=>dxF e λx ys=>dxO tb.f[j]? (mkOk L x)&&aL c.sc x&&ys.all ax&&fA L tb c as ys
 |.at cl f o,e=>dxA e λx fn _=>(dxO L.ct[cl]? λq=>decide (q.2[f]?=ς fn))&&aU x&&fE L tb c o x
 |.ix a b,e=>dxS e λx y _=>eR y&&fE L tb c a x&&fE L tb c b y
 |.sl _ a lo hi,e=>dxS e λx y _=>dxZ y λl h=>fE L tb c a x&&fO L tb c lo l&&fO L tb c hi h
 |.ls _ as,e=>dxL e λys=>ys.all ax&&fA L tb c as ys
 |.tu as,e=>dxT e λys=>ys.all ax&&fA L tb c as ys
 |.dn _ _,e=>dxD e
 |.il _ a,e=>dxF e λx ys=>dxV ys λz=>dxM z λy m ap zs cp=>zs.isEmpty&&(x==("list":Str))&&aL c.sc x&&L.bl.contains x&&(m==("items":Str))&&(ap.endLine==cp.line)&&aU y&&fE L tb c a y
 |.pp a b,e=>dxM e λy m ap ys cp=>dxV ys λz=>(m==("pop":Str))&&(ap.endLine==cp.line)&&aU y&&ax z&&fE L tb c a y&&fE L tb c b z
 |.dc _ a,e=>dxF e λx ys=>dxV ys λy=>(x==("dict":Str))&&aL c.sc x&&L.bl.contains x&&ax y&&fE L tb c a y
 | .co _ src pt it t a,e=>dxK e λelt tg iter ifs scope=>tQ c.N c.sc scope ((bO scope).drop 1) src&&fI L tb c it tg iter&&uX iter&&fP ⟨cO scope c.sc,(bO scope).drop 1⟩ θ pt tg&&(pt.slots.all λk=>decide (src[k]?=ς ψ))&&
     ((ifs.isEmpty&&isYs t)||dxV ifs λx=>fT L tb ⟨cO scope c.sc,(bO scope).drop 1⟩ t x)&&fE L tb ⟨cO scope c.sc,(bO scope).drop 1⟩ a elt
 |_,_=>ξ
def fO(L:Lw)(tb:Tb)(c:Sc):E->ζ J8->Bool
 |.no,o=>o.isNone
 |.cons a _,o=>dxO o λe=>fE L tb c a e
 |_,_=>ξ
def fT(L:Lw)(tb:Tb)(c:Sc):E->J8->Bool
 |.tr a,e=>if nG e then zP a&&fE L tb c a e else fTr L tb c a e
 |.tn a,e=>dxU θ e λx=>fT L tb c a x
 |.ta a b,e=>dxB θ e λx y=>fT L tb c a x&&fT L tb c b y
 |.to a b,e=>dxB ξ e λx y=>fT L tb c a x&&fT L tb c b y
 |_,_=>ξ
def fTr(L:Lw)(tb:Tb)(c:Sc):E->J8->Bool
 |.b2 o _ a b,e=>dxQ e λl op r=>decide (o.op=.inr op)&&!behindInMarks op r&&fE L tb c a l&&fE L tb c b r
 |_,_=>ξ
def fA(L:Lw)(tb:Tb)(c:Sc):E->η J8->Bool
 |.nil,es=>es.isEmpty
 |.cons a as,es=>(match es with|e::es=>fE L tb c a e&&fA L tb c as es|[]=>ξ)
 |_,_=>ξ
def fI(L:Lw)(tb:Tb)(c:Sc):E->J8->J8->Bool
 |.it a,_,e=>fE L tb c a e
 |.rg as,_,e=>dxF e λx ys=>(x==("range":Str))&&aL c.sc x&&L.bl.contains x&&ys.all ax&&decide (ys.length=uW as)&&decide (1<=ys.length)&&decide (ys.length<=1)&&fA L tb c as ys
 |.en a,tg,e=>zO tg&&dxF e λx ys=>dxV ys λy=>(x==("enumerate":Str))&&aL c.sc x&&L.bl.contains x&&ax y&&fE L tb c a y
 |_,_,_=>ξ
end
noncomputable def lev(n:Nat):Nat:=2*n
def EnP(G:Gx)(P:qe3)(w:J5)(K:xA9)(mg:Str->ζ Value)(base:Heap)(k:Nat):En->Prop
 |.fn x n F=>∃ps,OkF P w K mg base x k ps (spZ G n F)
 |.me c m n F=>∀p,G.ct[c]?=ς p->∃ps,OkM P w K mg base p.1 m k ps (spZ G n F)
 |.mk c n F=>∀p,G.ct[c]?=ς p->∃ps,OkI P w K mg base p.1 k ps (spZ G n F)
abbrev EnOk(G:Gx)(X:Cx)(k:Nat):En->Prop:=EnP G X.prog X.w X.K X.mg X.base k
structure Cn(L:Lw)(tb:Tb)(G:Gx)(c:Sc)(X:Cx):Prop where
 K:X.K=G.K
 ct:G.ct=L.ct
 k2:dO G.K=θ
 sc:X.env.scope=c.sc
 N:X.N=c.N
 nd:c.N.Nodup
 calm:X.calm=θ
 room:Room (lev tb.f.length+1) X.A
 bl:∀x∈L.bl,X.mg x=ψ
 gc:∀p∈tb.gc,zH G.K X.mg p.1 p.2
 cls:∀c,jq G c
 ks:∀s∈L.ks,kj G.K s
 f:∀e∈tb.f,EnOk G X (lev tb.f.length) e
 xe:X.xe=λ_ _=>False
variable{scope:J9}{e:J8}{pos:Pos}{inn:Bool}{env:Env}
section
variable{L:Lw}{tb:Tb}{G:Gx}{c:Sc}{X:Cx}
theorem Cn.rm(n:Cn L tb G c X):Room (lev tb.f.length) X.A:=n.room.mono (qn7 _)
theorem Cn.comp(n:Cn L tb G c X){M:η Str}{C:J4}{s:qa7}{H:Hp}{ex:η J4}(O:M.Nodup):Cn L tb G ⟨cO scope c.sc,M⟩ (cxC X M scope C s H ex):=⟨n.K,n.ct,n.k2,scC n.sc,rfl,O,n.calm,n.room,n.bl,n.gc,n.cls,n.ks,n.f,rfl⟩
omit x in
theorem Cm{X:Cx}{G:Gx}{d:Dt}(h:cst e d=θ):GE G X e (eK d):=by
 cases d<;>first|exact noT h|skip
 all_goals (cases e<;>first|exact noT h|skip)
 all_goals (rename_i k _ _;cases k<;>first|exact noT h|skip)
 .exact ui As λ_=>oK
 .obtain rfl:=beq_iff_eq.mp h;exact ui DI λ_=>g9
 .obtain rfl:=beq_iff_eq.mp h;exact ui Ar λ_=>bh
 .obtain rfl:=beq_iff_eq.mp h;exact ui Au λ_=>eC
theorem uY(n:Cn L tb G c X){i:Nat}{x:Str}(h:bL c.sc c.N i x=θ):PE X (.Name x pos) (qm i):=pvD i h n.sc n.N
theorem uZ{i:Nat}(hi:inn=ξ->∀x,X.fn x=θ)(n:Cn L tb G c X)(h:fNm c inn i e=θ):PG X e (ei i):=by
 unfold fNm at h;rcases h
 rw[qa1]at h;cases inn with
 |true=>exact tU h.1 h.2 (by rw[n.N];exact n.nd) n.sc n.N
 |false=>exact tT h.1 h.2 n.nd n.sc n.N (.inl (hi rfl _))
theorem o5(hi:inn=ξ->∀x,X.fn x=θ)(n:Cn L tb G c X):∀{is:η Nat}{es:η J8},yq c inn is es=θ->PGs X es (tPs G (iT is) is)/\(qi8 es X.env).length=is.length/\(qi8 es X.env).findIdx? (·.1)=ψ
 |[],[],_=>⟨xV,rfl,rfl⟩
 |i::is,e::es,h=>by
  rwa[yq,qa1]at h;have⟨h1,h2,U⟩:=o5 hi n h.2
  have O:qi8 (e::es) X.env=(ξ,za2 e X.env)::qi8 es X.env:=by have h:=h.1;unfold fNm at h;split at h<;>first|(cases h;done)|rfl
  refine⟨uG (uZ hi n h.1) h1 (by rw[O];rfl),by rw[O];simp[h2],?_⟩;rw[O,List.findIdx?_cons];simp[U]
 |[],e::es,h=>by cases h
 |i::is,[],h=>by cases h
omit x in
theorem o6(hi:inn=ξ->∀x,X.fn x=θ)(n:Cn L tb G c X){pt:Pt}(h:fP c inn pt e=θ):GP G X e pt:=by
 cases pt with
 |one i=>exact Ca (uZ hi n h)
 |many is=>
  unfold fP at h;rcases h
  .rename_i O;cases O
  .rename_i O;cases O;have⟨h1,h2,U⟩:=o5 hi n h;exact xW n.K n.calm h1 h2 U
theorem Co(h:nG e=θ)(O:Sem Value):isTrue e env O=(do let v <- O;qx8 e.pos;qo5 [v] (truthy v)):=by
 cases e with
 |UnaryOp op a p=>cases op<;>first|rfl|exact noT h
 |_=>first|rfl|exact noT h
theorem zQ{op vs p}{t:FM Bool}(h:GT G X (.BoolOp op vs p) t):GW G X (.BoolOp op vs p) t:=λ_ J0 s σ H Q I q=>h J0 s σ H Q I q
theorem asM{o:J8}{cpos:Pos}{es:η J8}(h1:aU o=θ)(h2:es.all ax=θ)(O:es.length<30)(h4:apos.endLine=cpos.line):AsM X o m apos es cpos:=⟨base_of h1,kL h2 O,beq_iff_eq.mpr h4,λe r h=>by subst h;rwa[qd4,qa1]at h2;exact⟨aC h2.1,bo h2.2⟩⟩
theorem zR{α:Type}{l:η α}(h:(!l.isEmpty)=θ):∃y r,l=y::r:=by cases l<;>first|exact⟨_,_,rfl⟩|cases h
theorem isYs.of{t:E}(h:isYs t=θ):t=.ys:=by cases t<;>first|rfl|exact noT h
omit x in
mutual
theorem gE:∀(a:E){c:Sc}{X:Cx}(n:Cn L tb G c X)(e:J8),fE L tb c a e=θ->GE G X e (evE tb a)
 |.k d=>λn e h=>Cm h
 |.v i=>λn e h=>by
  replace h:=dxN.of h;have⟨x,p,rfl,h⟩:=h
  exact BF (uY n h)
 |.g j=>λn e h=>by
  replace h:=dxN.of h;have⟨x,_,rfl,h⟩:=h
  have⟨h1,h⟩:=qc7.mp h;have⟨p,hp,h2⟩:=dxO.of h;obtain rfl:=beq_iff_eq.mp h2;show GE G _ _ (gcE tb.gc[j]?);rw[hp];have⟨v,hm,hv⟩:=n.gc p (qa4 hp);exact ui (tV h1 hm n.sc) hv
 |.b2 o m a b=>λn e h=>by
  have⟨r,o1,o2⟩:=o.ok G.K _ _ n.K n.rm n.k2
  replace h:(match o.op with|.inl op=>dxP e λl op' r=>decide (op'=op)&&fE L tb _ a l&&fE L tb _ b r|.inr op=>dxQ e λl op' r=>decide (op'=op)&&!behindInMarks op' r&&fE L tb _ a l&&fE L tb _ b r)=θ:=h
  cases q:o.op with
  |inl op=>
   rw[q]at o1 h
   replace h:=dxP.of h;have⟨l,op',r',p,rfl,h⟩:=h
   rwa[qa1,decide_eq_true_eq]at h;have⟨⟨rfl,h2⟩,h3⟩:=h;exact BG o1 o2 (gE a n _ h2) (gE b n _ h3)
  |inr op=>
   rw[q]at o1 h
   replace h:=dxQ.of h;have⟨l,op',r',p,rfl,h⟩:=h
   rwa[qa1,decide_eq_true_eq,qj1]at h;have⟨⟨⟨rfl,h0⟩,h2⟩,h3⟩:=h;exact BH o1 o2 (gE a n _ h2) (gE b n _ h3) h0
 |.nt a=>λn e h=>by
  replace h:=dxU.of h;have⟨x,p,rfl,h⟩:=h
  exact BP (gE a n _ h)
 |.ng a=>λn e h=>by
  replace h:=dxU.of h;have⟨x,p,rfl,h⟩:=h
  exact BQ (gE a n _ h)
 |.an a b=>λn e h=>by
  replace h:=dxB.of h;obtain⟨x,y,l,p,rfl,⟨rfl,h⟩|⟨z,r,rfl,h⟩⟩:=h<;>replace h:=qc7.mp h
  .exact uo (gE a n _ h.1) (BO (gE b n _ h.2))
  .exact uo (gE a n _ h.1) (gE b n _ h.2)
 |.cd t a b=>λn e h=>by
  replace h:=dxI.of h;have⟨x,y,z,p,rfl,h⟩:=h
  rwa[qa1]at h;exact Eh (gT t n _ h.1.1) (gE a n _ h.1.2) (gE b n _ h.2)
 |.bn o m as=>λn e h=>by
  replace h:=dxF.of h;have⟨x,q,ys,p,rfl,h⟩:=h
  rwa[qa1,beq_iff_eq,qh8]at h;have⟨⟨⟨⟨⟨h0,rfl⟩,h2⟩,h3⟩,h4⟩,h5⟩:=h;have⟨y,ys,rfl⟩:=zR h0;have⟨r,o1,o2⟩:=o.ok G.K _ _ n.K n.calm n.rm;have hs:=h4;rwa[qd4,qa1]at hs;have hb:=o.bt;cases q:o.fv with
  |inl id=>rw[q]at o1 hb;exact uK h2 o1 o2 (n.bl _ h3) hb (gA as n _ h5 h4) n.sc (aC hs.1) (bo hs.2)
  |inr id=>rw[q]at o1 hb;exact uL h2 o1 o2 (n.bl _ h3) hb (gA as n _ h5 h4) n.sc (aC hs.1) (bo hs.2)
 |.ii cn a=>λn e h=>by
  replace h:=dxF.of h;have⟨f,q,ys,p,rfl,h⟩:=h
  replace h:=dxW.of h;have⟨x,u,rfl,h⟩:=h
  replace h:=dxN.of h;have⟨t,p',rfl,h⟩:=h
  rwa[qa1,beq_iff_eq,qh8]at h;have⟨⟨⟨⟨⟨⟨⟨⟨rfl,h2⟩,h3⟩,h4⟩,h5⟩,h6⟩,h7⟩,h8⟩,h9⟩:=h;exact rB n.K h2 h4 (n.bl _ h3) (n.bl _ h5) h6 (by rw[n.K];exact n.ks _ h7) (gE a n _ h9) n.sc (aC h8) (aC rfl) rfl
 |.ms o m a as=>λn e h=>by
  replace h:=dxM.of h;have⟨x,m',ap,ys,p,rfl,h⟩:=h
  rwa[qa1,beq_iff_eq,decide_eq_true_eq]at h;have⟨⟨⟨⟨⟨⟨⟨h0,rfl⟩,h2⟩,h3⟩,h4⟩,h5⟩,h6⟩,h7⟩:=h;have⟨y,ys,rfl⟩:=zR h0;have⟨r,o1,o2⟩:=o.ok G.K _ n.K;have hs:=h4;rwa[qd4,qa1]at hs;exact Cc o.slot o.ty o1 o2 (gE a n _ h6) (gA as n _ h7 h4) (base_of h3) (kL h4 h5) (beq_iff_eq.mpr h2) (aC hs.1) (bo hs.2)
 |.gt a k d=>λn e h=>by
  replace h:=dxM.of h;have⟨x,m',ap,ys,p,rfl,h⟩:=h
  replace h:=dxW.of h;have⟨y,z,rfl,h⟩:=h
  rwa[qa1,beq_iff_eq]at h;have⟨⟨⟨⟨⟨⟨⟨rfl,h2⟩,h3⟩,h4⟩,h5⟩,h6⟩,h7⟩,h8⟩:=h;exact yf n.k2 n.rm (gE a n _ h6) (gE k n _ h7) (gE d n _ h8) ⟨base_of h3,kL (by simp[h4,h5]) (by show 2<30;decide),beq_iff_eq.mpr h2,by rw[aC h4,aC h5];rfl⟩
 |.ca j as=>λn e h=>by
  replace h:=dxF.of h;have⟨x,_,ys,_,rfl,h⟩:=h
  rwa[qa1]at h;have⟨⟨⟨h1,h2⟩,h3⟩,h4⟩:=h;have⟨en,hj,h1⟩:=dxO.of h1;cases en<;>try(cases h1;done)
  .rename_i y m F;obtain rfl:=beq_iff_eq.mp h1;show GE G _ _ (caE (evA tb as) tb.f[j]?);rw[hj];have⟨ps,ok⟩:=n.f _ (qa4 hj);cases ys with
   |nil=>
    have ha:evA tb as=aNl:=by cases as<;>first|rfl|exact noT h4
    rw[ha];exact ur h2 ok n.rm n.sc
   |cons y ys=>have hs:=h3;rwa[qd4,qa1]at hs;exact xH h2 ok n.rm (gA as n _ h4 h3) n.sc (aC hs.1) (bo hs.2)
 |.me j o as=>λn e h=>by
  replace h:=dxM.of h;have⟨x,m,ap,ys,p,rfl,h⟩:=h
  rwa[qa1,beq_iff_eq,decide_eq_true_eq]at h;have⟨⟨⟨⟨⟨⟨h1,h2⟩,h3⟩,h4⟩,h5⟩,h6⟩,h7⟩:=h;have⟨en,hj,h1⟩:=dxO.of h1;cases en<;>try(cases h1;done)
  rename_i cl y k F;have⟨h1,h8⟩:=qc7.mp h1;obtain rfl:=beq_iff_eq.mp h1;have⟨q,hq,h8⟩:=dxO.of h8;rw[<- n.ct]at hq;have hm:y∉q.2:=by simpa[qh8] using h8
  show GE G _ _ (meE (evE tb o) (evA tb as) tb.f[j]?);rw[hj];have⟨ps,ok⟩:=n.f _ (qa4 hj) q hq;have⟨pl,he⟩:=rS (m:=y) h3 h4 h5 (beq_iff_eq.mpr h2);cases ys with
  |nil=>
   have ha:evA tb as=aNl:=by cases as<;>first|rfl|exact noT h7
   rw[ha];exact uu n.K hq hm ok n.rm (gE o n _ h6) he
  |cons z ys=>have hs:=h4;rwa[qd4,qa1]at hs;exact xI n.K hq hm ok n.rm (gE o n _ h6) (gA as n _ h7 h4) (aC hs.1) (bo hs.2) he
 |.mk j as=>λn e h=>by
  replace h:=dxF.of h;have⟨x,_,ys,_,rfl,h⟩:=h
  rwa[qa1]at h;have⟨⟨⟨h1,h2⟩,h3⟩,h4⟩:=h;have⟨en,hj,h1⟩:=dxO.of h1;cases en<;>try(cases h1;done)
  rename_i cl k F;have⟨q,hq,h1⟩:=dxO.of h1;rw[<- n.ct]at hq;obtain rfl:=beq_iff_eq.mp h1;show GE G _ _ (mkE (evA tb as) tb.f[j]?);rw[hj];have⟨ps,ok⟩:=n.f _ (qa4 hj) q hq;cases ys with
  |nil=>
   have ha:evA tb as=aNl:=by cases as<;>first|rfl|exact noT h4
   rw[ha];exact uw n.K hq h2 ok n.room n.sc
  |cons z ys=>have hs:=h3;rwa[qd4,qa1]at hs;exact xJ n.K hq h2 ok n.room (gA as n _ h4 h3) n.sc (aC hs.1) (bo hs.2)
 |.at cl f o=>λn e h=>by
  replace h:=dxA.of h;have⟨x,fn,p,rfl,h⟩:=h
  rwa[qa1]at h;have⟨⟨h1,h2⟩,h3⟩:=h;have⟨q,hq,h1⟩:=dxO.of h1;rw[<- n.ct]at hq;exact Ej n.K (n.cls cl) hq (of_decide_eq_true h1) (gE o n _ h3) (base_of h2)
 |.ix a b=>λn e h=>by
  replace h:=dxS.of h;have⟨x,y,p,rfl,h⟩:=h
  rwa[qa1]at h;exact Ei n.K n.k2 n.rm (gE a n _ h.1.2) (gE b n _ h.2) (nE h.1.1)
 |.sl m a lo hi=>λn e h=>by
  replace h:=dxS.of h;have⟨x,y,p,rfl,h⟩:=h
  replace h:=dxZ.of h;have⟨l,u,p',rfl,h⟩:=h
  rwa[qa1]at h;exact uJ n.K (gE a n _ h.1.1) (gO lo n _ h.1.2) (gO hi n _ h.2)
 |.ls m as=>λn e h=>by
  replace h:=dxL.of h;have⟨ys,p,rfl,h⟩:=h
  have h:=qc7.mp h;exact BW (gA as n _ h.2 h.1)
 |.tu as=>λn e h=>by
  replace h:=dxT.of h;have⟨ys,q,p,rfl,h⟩:=h
  have h:=qc7.mp h;exact BX (gA as n _ h.2 h.1)
 |.dn m t=>λn e h=>by have⟨p,rfl⟩:=dxD.of h;exact yc
 |.il m a=>λn e h=>by
  replace h:=dxF.of h;have⟨x,_,ys,_,rfl,h⟩:=h
  replace h:=dxV.of h;have⟨z,rfl,h⟩:=h
  replace h:=dxM.of h;have⟨y,m',ap,zs,cp,rfl,h⟩:=h
  rwa[qa1,beq_iff_eq,qh8,qi5]at h;have⟨⟨⟨⟨⟨⟨⟨rfl,rfl⟩,h2⟩,h3⟩,rfl⟩,h5⟩,h6⟩,h7⟩:=h;exact Ch n.K h2 n.calm (n.bl _ h3) (gE a n _ h7) n.sc (base_of h6) (beq_iff_eq.mpr h5)
 |.pp a b=>λn e h=>by
  replace h:=dxM.of h;have⟨y,m',ap,ys,cp,rfl,h⟩:=h
  replace h:=dxV.of h;have⟨z,rfl,h⟩:=h
  rwa[qa1,beq_iff_eq]at h;have⟨⟨⟨⟨⟨rfl,h2⟩,h3⟩,h4⟩,h5⟩,h6⟩:=h;exact Ci (gE a n _ h5) (gE b n _ h6) (asM h3 (by simp[h4]) (by show 1<30;decide) h2)
 |.dc m a=>λn e h=>by
  replace h:=dxF.of h;have⟨x,_,ys,_,rfl,h⟩:=h
  replace h:=dxV.of h;have⟨y,rfl,h⟩:=h
  rwa[qa1,beq_iff_eq,qh8]at h;have⟨⟨⟨⟨rfl,h2⟩,h3⟩,h4⟩,h5⟩:=h;exact yp h2 n.K n.calm (n.bl _ h3) (gE a n _ h5) n.sc (aC h4)
 |.co m src pt it t a=>λn e h=>by
  replace h:=dxK.of h;have⟨elt,tg,iter,ifs,scope,p,rfl,h⟩:=h
  rwa[qa1,qh2]at h;have⟨⟨⟨⟨⟨⟨h2,h3⟩,h4⟩,h5⟩,h6⟩,h7⟩,h8⟩:=h;have S:=CmpScope.of h2;refine xZ (pt:=pt) (by rw[n.N,n.sc];exact S) n.calm (gI it n _ _ h3) (λnd C s H ex=>o6 (inn:=true) (nofun) (n.comp nd) h5) (λC s H ex=>?_) (λC s H ex=>gE a (n.comp S.nd) _ h8) h6 (kJ h4);obtain h7|h7:=h7
  .obtain rfl:=qi5.mp h7.1;obtain rfl:=isYs.of h7.2;exact oV
  .have⟨x,rfl,h7⟩:=dxV.of h7;exact oW (gT t (n.comp S.nd) _ h7)
 |.tr _|.tn _|.ta _ _|.to _ _|.no|.ys|.it _|.rg _|.en _|.nil|.cons _ _=>λ_ _ h=>noT h
theorem gO:∀(a:E){c:Sc}{X:Cx}(n:Cn L tb G c X)(e:ζ J8),fO L tb c a e=θ->PO X e (tM G RO (fOp (evO tb a)))
 |.no=>λn o h=>by obtain rfl:=qn0.mp h;exact ya
 |.cons a b=>λn o h=>by have⟨e,rfl,h⟩:=dxO.of h;exact yb (gE a n e h)
 |.k _|.v _|.g _|.b2 _ _ _ _|.nt _|.ng _|.an _ _|.cd _ _ _|.tr _|.tn _|.ta _ _|.to _ _|.bn _ _ _|.ii _ _|.ms _ _ _ _|.gt _ _ _|.ca _ _|.me _ _ _|.mk _ _|.at _ _ _|.ix _ _|.sl _ _ _ _|.ls _ _|.tu _|.dn _ _|.il _ _|.pp _ _|.dc _ _|.co _ _ _ _ _ _|.ys|.it _|.rg _|.en _|.nil=>λ_ _ h=>noT h
theorem gT:∀(a:E){c:Sc}{X:Cx}(n:Cn L tb G c X)(e:J8),fT L tb c a e=θ->GT G X e (evT tb a)
 |.tr a=>λn e h=>by
  replace h:(if nG e then zP a&&fE L tb _ a e else fTr L tb _ a e)=θ:=h
  split at h
  .rename_i hp;rw[qa1]at h;have ha:evT tb (.tr a)=hW (evE tb a):=by cases a<;>first|rfl|exact noT h.1
   rw[ha];exact BJ n.K (gE a n e h.2) (Co hp)
  .exact gTr a n e h
 |.tn a=>λn e h=>by
  replace h:=dxU.of h;have⟨x,p,rfl,h⟩:=h
  exact BK (gT a n _ h)
 |.ta a b=>λn e h=>by
  replace h:=dxB.of h;obtain⟨x,y,l,p,rfl,⟨rfl,h⟩|⟨z,r,rfl,h⟩⟩:=h<;>replace h:=qc7.mp h
  .exact(ul (gT a n _ h.1) (xC (gT b n _ h.2))).t
  .exact(ul (gT a n _ h.1) (zQ (gT b n _ h.2))).t
 |.to a b=>λn e h=>by
  replace h:=dxB.of h;obtain⟨x,y,l,p,rfl,⟨rfl,h⟩|⟨z,r,rfl,h⟩⟩:=h<;>replace h:=qc7.mp h
  .exact(zI (gT a n _ h.1) (BN (gT b n _ h.2))).t
  .exact(zI (gT a n _ h.1) (zQ (gT b n _ h.2))).t
 |.no|.cons _ _|.k _|.v _|.g _|.b2 _ _ _ _|.nt _|.ng _|.an _ _|.cd _ _ _|.bn _ _ _|.ii _ _|.ms _ _ _ _|.gt _ _ _|.ca _ _|.me _ _ _|.mk _ _|.at _ _ _|.ix _ _|.sl _ _ _ _|.ls _ _|.tu _|.dn _ _|.il _ _|.pp _ _|.dc _ _|.co _ _ _ _ _ _|.ys|.it _|.rg _|.en _|.nil=>λ_ _ h=>noT h
theorem gTr:∀(a:E){c:Sc}{X:Cx}(n:Cn L tb G c X)(e:J8),fTr L tb c a e=θ->GT G X e (evT tb (.tr a))
 |.b2 o m a b=>λn e h=>by
  have⟨r,o1,o2⟩:=o.ok G.K _ _ n.K n.rm n.k2
  replace h:=dxQ.of h;have⟨l,op,r',p,rfl,h⟩:=h
  rwa[qa1,decide_eq_true_eq,qj1]at h;have⟨⟨⟨h1,h0⟩,h2⟩,h3⟩:=h;rw[h1]at o1;exact BI o1 o2 (gE a n _ h2) (gE b n _ h3) h0
 |.no|.cons _ _|.k _|.v _|.g _|.nt _|.ng _|.an _ _|.cd _ _ _|.bn _ _ _|.ii _ _|.ms _ _ _ _|.gt _ _ _|.ca _ _|.me _ _ _|.mk _ _|.at _ _ _|.ix _ _|.sl _ _ _ _|.ls _ _|.tu _|.dn _ _|.il _ _|.pp _ _|.dc _ _|.co _ _ _ _ _ _|.ys|.it _|.rg _|.en _|.nil|.tr _|.tn _|.ta _ _|.to _ _=>λ_ _ h=>noT h
theorem gA:∀(a:E){c:Sc}{X:Cx}(n:Cn L tb G c X)(es:η J8),fA L tb c a es=θ->es.all ax=θ->GA G X es (evA tb a)
 |.nil=>λn es h _=>by obtain rfl:=qi5.mp h;exact BR
 |.cons a as=>λn es h hs=>by
  obtain _|⟨e,es⟩:=es
  .cases h
  have h:=qc7.mp h;rwa[qd4,qa1]at hs;exact xD (gE a n e h.1) (gA as n es h.2 hs.2) (aC hs.1)
 |.no|.k _|.v _|.g _|.b2 _ _ _ _|.nt _|.ng _|.an _ _|.cd _ _ _|.bn _ _ _|.ii _ _|.ms _ _ _ _|.gt _ _ _|.ca _ _|.me _ _ _|.mk _ _|.at _ _ _|.ix _ _|.sl _ _ _ _|.ls _ _|.tu _|.dn _ _|.il _ _|.pp _ _|.dc _ _|.co _ _ _ _ _ _|.ys|.it _|.rg _|.en _|.tr _|.tn _|.ta _ _|.to _ _=>λ_ _ h _=>noT h
theorem gI:∀(a:E){c:Sc}{X:Cx}(n:Cn L tb G c X)(tg e:J8),fI L tb c a tg e=θ->GI G X tg e (evI tb a)
 |.it a=>λn tg e h=>gi_e n.K (gE a n e h)
 |.rg as=>λn tg e h=>by
  replace h:=dxF.of h;have⟨x,_,ys,_,rfl,h⟩:=h
  rwa[qa1,beq_iff_eq,decide_eq_true_eq,qh8]at h;have⟨⟨⟨⟨⟨⟨⟨h1,h2⟩,h3⟩,h4⟩,h5⟩,h6⟩,h7⟩,h8⟩:=h;subst h1;show GI G _ _ _ (iR (uW as) (evA tb as));rw[<- h5];have ga:=gA as n _ h8 h4
  match ys,h4,h6,h7,ga with
  |[x],h4,_,_,ga=>rwa[qd4,qa1]at h4;exact rj h2 (n.bl _ h3) ga n.sc (aC h4.1)
  |_::_::_,_,_,h7,_=>simp at h7
 |.en a=>λn tg e h=>by
  replace h:=qc7.mp h
  have⟨h0,h⟩:=h
  replace h:=dxF.of h;have⟨x,_,ys,_,rfl,h⟩:=h
  replace h:=dxV.of h;have⟨y,rfl,h⟩:=h
  rwa[qa1,beq_iff_eq,qh8]at h;have⟨⟨⟨⟨rfl,h2⟩,h3⟩,h4⟩,h5⟩:=h;cases tg with
  |Tuple es k p=>exact xY n.K h2 (n.bl _ h3) (gE a n _ h5) n.sc (aC h4)
  |_=>cases h0
 |.no|.cons _ _|.k _|.v _|.g _|.b2 _ _ _ _|.nt _|.ng _|.an _ _|.cd _ _ _|.bn _ _ _|.ii _ _|.ms _ _ _ _|.gt _ _ _|.ca _ _|.me _ _ _|.mk _ _|.at _ _ _|.ix _ _|.sl _ _ _ _|.ls _ _|.tu _|.dn _ _|.il _ _|.pp _ _|.dc _ _|.co _ _ _ _ _ _|.ys|.nil|.tr _|.tn _|.ta _ _|.to _ _=>λ_ _ _ h=>noT h
end
end
noncomputable def isLC:J8->Bool
 |.ListComp _ _ _ _=>θ
 |_=>ξ
noncomputable def swB(c:Sc)(x:Str)(p:Pos):J8->Bool
 |.ListComp _ _ scope q=>decide (c.sc.names.lookup x=ς .local)&&(p.line==q.line)&&!(scope.names.any λ(n,k)=>n==x&&(k==.local||k==.cell))
 |_=>ξ
section
variable{st:J6}
noncomputable def dsA(st:J6)(k:J8->J8->Bool):Bool:=match st with|.Assign ts v _=>dxV ts λt=>k t v|_=>ξ
theorem dsA.of{k:J8->J8->Bool}(h:dsA st k=θ):∃t v p,st=.Assign [t] v p/\k t v=θ:=by
 cases st with
 |Assign ts v p=>have⟨t,rfl,h⟩:=dxV.of h;exact⟨_,_,_,rfl,h⟩
 |_=>exact noT h
noncomputable def dsU(st:J6)(k:J8->qq2->J8->Bool):Bool:=match st with|.AugAssign t o v _=>k t o v|_=>ξ
theorem dsU.of{k:J8->qq2->J8->Bool}(h:dsU st k=θ):∃t o v p,st=.AugAssign t o v p/\k t o v=θ:=by cases st<;>first|exact⟨_,_,_,_,rfl,h⟩|exact noT h
noncomputable def dsX(st:J6)(k:J8->Bool):Bool:=match st with|.Expr v _=>k v|_=>ξ
theorem dsX.of{k:J8->Bool}(h:dsX st k=θ):∃v p,st=.Expr v p/\k v=θ:=by cases st<;>first|exact⟨_,_,rfl,h⟩|exact noT h
noncomputable def dsR(st:J6)(k:ζ J8->Bool):Bool:=match st with|.Return v _=>k v|_=>ξ
theorem dsR.of{k:ζ J8->Bool}(h:dsR st k=θ):∃v p,st=.Return v p/\k v=θ:=by cases st<;>first|exact⟨_,_,rfl,h⟩|exact noT h
noncomputable def dsI(st:J6)(k:J8->η J6->η J6->Bool):Bool:=match st with|.If x y z _=>k x y z|_=>ξ
theorem dsI.of{k:J8->η J6->η J6->Bool}(h:dsI st k=θ):∃x y z p,st=.If x y z p/\k x y z=θ:=by cases st<;>first|exact⟨_,_,_,_,rfl,h⟩|exact noT h
noncomputable def dsF(st:J6)(k:J8->J8->η J6->Bool):Bool:=match st with|.For t i b o _=>o.isEmpty&&k t i b|_=>ξ
theorem dsF.of{k:J8->J8->η J6->Bool}(h:dsF st k=θ):∃t i b p,st=.For t i b [] p/\k t i b=θ:=by
 cases st with
 |For t i b o p=>have⟨q,h⟩:=qc7.mp h;obtain rfl:=qi5.mp q;exact⟨_,_,_,_,rfl,h⟩
 |_=>exact noT h
noncomputable def dsW(st:J6)(k:J8->η J6->Bool):Bool:=match st with|.While x b o _=>o.isEmpty&&k x b|_=>ξ
theorem dsW.of{k:J8->η J6->Bool}(h:dsW st k=θ):∃x b p,st=.While x b [] p/\k x b=θ:=by
 cases st with
 |While x b o p=>have⟨q,h⟩:=qc7.mp h;obtain rfl:=qi5.mp q;exact⟨_,_,_,rfl,h⟩
 |_=>exact noT h
noncomputable def Ev:J8->Bool
 |.Constant (.str _) _ _=>θ
 |_=>ξ
noncomputable def dsP:J6->Bool
 |.Pass _=>θ
 |.Expr v _=>Ev v
 |_=>ξ
noncomputable def dsB:J6->Bool
 |.Break _=>θ
 |_=>ξ
noncomputable def dsC:J6->Bool
 |.Continue _=>θ
 |_=>ξ
end
mutual
def fS(L:Lw)(tb:Tb)(c:Sc):S->J6->Bool
 |.set i e,st=>dsA st λt v=>dxN t λx=>bL c.sc c.N i x&&iP c.sc x&&fE L tb c e v&&(ij v||isLC v)
 |.un pt e,st=>dsA st λtg v=>zO tg&&fP c ξ pt tg&&ij v&&Eu v&&fE L tb c e v
 |.put a k e,st=>dsA st λt v=>dxS t λo ik _=>eR ik&&fE L tb c a o&&fE L tb c k ik&&fE L tb c e v
 |.pts i k e,st=>dsA st λt v=>dxS t λo ik _=>dxN o λx=>bL c.sc c.N i x&&eR ik&&fE L tb c k ik&&fE L tb c e v
 |.fl cl f o e,st=>dsA st λt v=>dxA t λx fn _=>(dxO L.ct[cl]? λq=>decide (q.2[f]?=ς fn))&&fE L tb c o x&&fE L tb c e v
 |.fa cl f op a e,st=>dsU st λt aop v=>dxA t λx fn _=>decide (aop=op.op)&&(dxO L.ct[cl]? λq=>decide (q.2[f]?=ς fn))&&fE L tb c a x&&fE L tb c e v
 |.au i op e,st=>dsU st λt aop v=>dxN t λx=>decide (aop=op.op)&&bL c.sc c.N i x&&iP c.sc x&&fE L tb c e v
 |.dr e,st=>dsX st λv=>ij v&&fE L tb c e v
 |.ap a e,st=>dsX st λu=>dxM u λo m ap ys cp=>dxV ys λv=>(m==("append":Str))&&(ap.endLine==cp.line)&&aU o&&ax v&&fE L tb c a o&&fE L tb c e v
 |.aps i e,st=>dsX st λu=>dxM u λo m ap ys cp=>dxV ys λv=>dxN o λx=>(m==("append":Str))&&(ap.endLine==cp.line)&&bL c.sc c.N i x&&ax v&&fE L tb c e v
 |.cl _ a,st=>dsX st λu=>dxM u λo m ap ys cp=>ys.isEmpty&&(m==("clear":Str))&&(ap.endLine==cp.line)&&aU o&&fE L tb c a o
 |.up a e,st=>dsX st λu=>dxM u λo m ap ys cp=>dxV ys λv=>(m==("update":Str))&&(ap.endLine==cp.line)&&aU o&&ax v&&fE L tb c a o&&fE L tb c e v
 |.rt e,st=>dsR st λo=>dxO o λv=>fE L tb c e v
 |.rn,st=>dsR st λo=>o.isNone
 |.cd t a b,st=>dsI st λx y z=>fT L tb c t x&&fB L tb c a y&&fB L tb c b z
 |.fo pt it b,st=>dsF st λtg iter body=>fI L tb c it tg iter&&uX iter&&fP c ξ pt tg&&fB L tb c b body
 |.wh _ t b,st=>dsW st λx body=>fT L tb c t x&&fB L tb c b body
 |_,_=>ξ
def fB(L:Lw)(tb:Tb)(c:Sc):S->η J6->Bool
 |.nil,ss=>ss.isEmpty
 |.sq s r,ss=>(match ss with|st::rest=>fS L tb c s st&&fB L tb c r rest|[]=>ξ)
 |.fz _ r,ss=>fB L tb c r ss
 |_,_=>ξ
end
variable{gs:η Comprehension}{q:Pos}
section
variable{L:Lw}{tb:Tb}{G:Gx}{c:Sc}{X:Cx}
theorem swA{x:Str}{o:J8}{p:Pos}{n:Nat}:qj6 e (ς (.Attribute o x p)) n env=pure ξ:=by cases e<;>rfl
theorem swS{o i:J8}{p:Pos}{n:Nat}:qj6 e (ς (.Subscript o i p)) n env=pure ξ:=by cases e<;>rfl
theorem asS{o ik:J8}{pos':Pos}(h:eR ik=θ):AsS X o ik e pos pos':=⟨by unfold qv6;exact swS,by cases e<;>rfl,rfl,λv=>by cases ik<;>first|rfl|cases h⟩
theorem yr{x:Str}{p:Pos}{n:Nat}(O:env.scope.kind=.function)(hs:env.scope=c.sc)(h:swB c x p (.ListComp e gs scope q)=θ):qj6 (.ListComp e gs scope q) (ς (.Name x p)) n env=pure θ:=by
 unfold swB at h;rwa[qa1,decide_eq_true_eq,beq_iff_eq]at h;show(pure (env.blockKind==.function&&env.kindOf x==ς .local&&p.line==q.line&&!(scope.names.any λ(n,k)=>n==x&&(k==.local||k==.cell))):Sem Bool)=pure θ;have h1:env.blockKind=.function:=by unfold Env.blockKind;rw[O];rfl
 have h2:env.kindOf x=ς .local:=by unfold Env.kindOf;rw[hs];exact h.1.1
 rw[h1,h2,h.1.2,h.2];simp
theorem vb{x:Str}{p:Pos}{n:Nat}(hs:env.scope=c.sc)(h:swB c x p (.ListComp e gs scope q)=ξ):qj6 (.ListComp e gs scope q) (ς (.Name x p)) n env=pure ξ:=by
 show(pure (env.blockKind==.function&&env.kindOf x==ς .local&&p.line==q.line&&!(scope.names.any λ(n,k)=>n==x&&(k==.local||k==.cell))):Sem Bool)=pure ξ;congr 1;have h:(decide (c.sc.names.lookup x=ς .local)&&(p.line==q.line)&&!(scope.names.any λ(n,k)=>n==x&&(k==.local||k==.cell)))=ξ:=h;have h2:(env.kindOf x==ς .local)=decide (c.sc.names.lookup x=ς .local):=by unfold Env.kindOf;rw[hs];by_cases q:c.sc.names.lookup x=ς .local<;>simp[q]
 rw[h2,qy3,qy3,<- qy3 (decide _),h,zd3]
mutual
theorem gS(hf:∀x,X.fn x=θ)(hk:X.env.scope.kind=.function)(n:Cn L tb G c X):∀(a:S)(st:J6),fS L tb c a st=θ->GS1 G X st (evS tb a)
 |.set i e=>λst h=>by
  replace h:=dsA.of h;have⟨t,v,q,rfl,h⟩:=h
  replace h:=dxN.of h;have⟨x,p,rfl,h⟩:=h
  rwa[qa1,qh2]at h;have⟨⟨⟨h1,h2⟩,h3⟩,h4⟩:=h;by_cases hc:ij v=θ
  .exact ux h1 h2 n.nd (gE e n v h3) n.sc n.N (.inl (hf x)) (im hc)
  .have h4:=h4.resolve_left hc;cases v with
   |ListComp elt gs scope vp=>
    cases hw:swB c x p (.ListComp elt gs scope vp)with
    |false=>exact ux h1 h2 n.nd (gE e n _ h3) n.sc n.N (.inl (hf x)) (vb n.sc hw)
    |true=>
     cases e with
     |co m src pt it t a=>
      have⟨_,tg,iter,ifs,_,_,e1,h3⟩:=dxK.of h3;cases e1;rwa[qa1,qh2]at h3;have⟨⟨⟨⟨⟨⟨q2,q3⟩,q4⟩,q5⟩,q6⟩,q7⟩,q8⟩:=h3;have S:=CmpScope.of q2;refine x9 (pt:=pt) h1 h2 n.nd n.sc n.N (.inl (hf x)) (by rw[n.N,n.sc];exact S) n.calm (gI it n _ _ q3) (λnd C s H ex=>o6 (inn:=true) nofun (n.comp nd) q5) (λC s H ex=>?_) (λC s H ex=>gE a (n.comp S.nd) _ q8) q6 (kJ q4) (yr hk n.sc hw);obtain q7|q7:=q7
      .obtain rfl:=qi5.mp q7.1;obtain rfl:=isYs.of q7.2;exact oV
      .have⟨x,rfl,q7⟩:=dxV.of q7;exact oW (gT t (n.comp S.nd) _ q7)
     |b2 o _ _ _=>
      replace h3:(match o.op with|.inl _=>ξ|.inr _=>ξ)=θ:=h3
      cases q:o.op<;>rw[q]at h3<;>exact noT h3
     |k d=>cases d<;>exact noT h3
     |_=>exact noT h3
   |_=>cases h4
 |.un pt e=>λst h=>by
  replace h:=dsA.of h;have⟨tg,v,q,rfl,h⟩:=h
  rwa[qa1]at h;have⟨⟨⟨⟨h1,h2⟩,h3⟩,h4⟩,h5⟩:=h;refine Cg (gE e n v h5) (o6 (λ_=>hf) n h2) (by unfold qv6;exact im h3) ?_ (by cases tg<;>first|rfl|cases h1);cases tg with
  |Tuple ts k p=>cases v<;>first|rfl|cases h4
  |_=>cases h1
 |.put a k e=>λst h=>by
  replace h:=dsA.of h;have⟨t,v,q,rfl,h⟩:=h
  replace h:=dxS.of h;have⟨o,ik,p,rfl,h⟩:=h
  rwa[qa1]at h;exact Cd n.k2 n.rm (gE a n _ h.1.1.2) (gE k n _ h.1.2) (gE e n _ h.2) (asS h.1.1.1)
 |.pts i k e=>λst h=>by
  replace h:=dsA.of h;have⟨t,v,q,rfl,h⟩:=h
  replace h:=dxS.of h;have⟨o,ik,p,rfl,h⟩:=h
  replace h:=dxN.of h;have⟨x,p',rfl,h⟩:=h
  rwa[qa1]at h;exact yk n.k2 n.rm (uY n h.1.1.1) (gE k n _ h.1.2) (gE e n _ h.2) (asS h.1.1.2)
 |.fl cl f o e=>λst h=>by
  replace h:=dsA.of h;have⟨t,v,q,rfl,h⟩:=h
  replace h:=dxA.of h;have⟨x,fn,p,rfl,h⟩:=h
  rwa[qa1]at h;have⟨⟨h1,h2⟩,h3⟩:=h;have⟨q,hq,h1⟩:=dxO.of h1;rw[<- n.ct]at hq;exact Ce n.K (n.cls cl) hq (of_decide_eq_true h1) (gE o n _ h2) (gE e n _ h3) swA
 |.fa cl f op a e=>λst h=>by
  replace h:=dsU.of h;have⟨t,aop,v,q,rfl,h⟩:=h
  replace h:=dxA.of h;have⟨x,fn,p,rfl,h⟩:=h
  rwa[qa1,decide_eq_true_eq]at h;have⟨⟨⟨rfl,h1⟩,h2⟩,h3⟩:=h;have⟨q,hq,h1⟩:=dxO.of h1;rw[<- n.ct]at hq;exact rC n.K (n.cls cl) hq (of_decide_eq_true h1) (op.ok X) (gE a n _ h2) (gE e n _ h3)
 |.au i op e=>λst h=>by
  replace h:=dsU.of h;have⟨t,aop,v,q,rfl,h⟩:=h
  replace h:=dxN.of h;have⟨x,p,rfl,h⟩:=h
  rwa[qa1,decide_eq_true_eq]at h;have⟨⟨⟨h0,h1⟩,h2⟩,h3⟩:=h;subst h0;exact Cf h1 h2 n.nd (op.ok X) (gE e n _ h3) n.sc n.N (.inl (hf _))
 |.dr e=>λst h=>by
  replace h:=dsX.of h;have⟨v,p,rfl,h⟩:=h
  replace h:=qc7.mp h
  exact xL (gE e n _ h.2) (im h.1)
 |.ap a e=>λst h=>by
  replace h:=dsX.of h;have⟨u,p,rfl,h⟩:=h
  replace h:=dxM.of h;have⟨o,m,ap,ys,cp,rfl,h⟩:=h
  replace h:=dxV.of h;have⟨v,rfl,h⟩:=h
  rwa[qa1,beq_iff_eq]at h;have⟨⟨⟨⟨⟨h1,h2⟩,h3⟩,h4⟩,h5⟩,h6⟩:=h;subst h1;exact rE (gE a n _ h5) (gE e n _ h6) (asM h3 (by simp[h4]) (by show 1<30;decide) h2) rfl
 |.aps i e=>λst h=>by
  replace h:=dsX.of h;have⟨u,p,rfl,h⟩:=h
  replace h:=dxM.of h;have⟨o,m,ap,ys,cp,rfl,h⟩:=h
  replace h:=dxV.of h;have⟨v,rfl,h⟩:=h
  replace h:=dxN.of h;have⟨x,p',rfl,h⟩:=h
  rwa[qa1,beq_iff_eq]at h;have⟨⟨⟨⟨h1,h2⟩,h3⟩,h4⟩,h5⟩:=h;subst h1;exact nz (uY n h3) (gE e n _ h5) (asM rfl (by simp[h4]) (by show 1<30;decide) h2) rfl
 |.cl t a=>λst h=>by
  replace h:=dsX.of h;have⟨u,p,rfl,h⟩:=h
  replace h:=dxM.of h;have⟨o,m,ap,ys,cp,rfl,h⟩:=h
  rwa[qa1,beq_iff_eq,qi5]at h;have⟨⟨⟨⟨rfl,rfl⟩,h2⟩,h3⟩,h4⟩:=h;exact uU (gE a n _ h4) (base_of h3) (beq_iff_eq.mpr h2) rfl
 |.up a e=>λst h=>by
  replace h:=dsX.of h;have⟨u,p,rfl,h⟩:=h
  replace h:=dxM.of h;have⟨o,m,ap,ys,cp,rfl,h⟩:=h
  replace h:=dxV.of h;have⟨v,rfl,h⟩:=h
  rwa[qa1,beq_iff_eq]at h;have⟨⟨⟨⟨⟨h1,h2⟩,h3⟩,h4⟩,h5⟩,h6⟩:=h;subst h1;exact rR (gE a n _ h5) (gE e n _ h6) (asM h3 (by simp[h4]) (by show 1<30;decide) h2) rfl
 |.rt e=>λst h=>by
  replace h:=dsR.of h;have⟨o,p,rfl,h⟩:=h
  replace h:=dxO.of h;have⟨v,rfl,h⟩:=h
  exact B5 (gE e n _ h)
 |.rn=>λst h=>by
  replace h:=dsR.of h;have⟨o,p,rfl,h⟩:=h
  obtain rfl:=qn0.mp h;exact xM
 |.cd t a b=>λst h=>by
  replace h:=dsI.of h;have⟨x,y,z,p,rfl,h⟩:=h
  rwa[qa1]at h;exact Ek (gT t n _ h.1.1) (gB hf hk n a _ h.1.2) (gB hf hk n b _ h.2)
 |.fo pt it b=>λst h=>by
  replace h:=dsF.of h;have⟨tg,iter,body,p,rfl,h⟩:=h
  rwa[qa1]at h;have⟨⟨⟨h1,h2⟩,h3⟩,h4⟩:=h;exact Cb (by rw[n.xe];exact zb7.never) n.calm (gI it n _ _ h1) (o6 (λ_=>hf) n h3) (gB hf hk n b _ h4) (kJ h2)
 |.wh m t b=>λst h=>by
  replace h:=dsW.of h;have⟨x,body,p,rfl,h⟩:=h
  replace h:=qc7.mp h
  exact uI m (by rw[n.xe];exact zb7.never) (gT t n _ h.1) (gB hf hk n b _ h.2)
 |.nil|.sq _ _|.fz _ _=>λ_ h=>noT h
theorem gB(hf:∀x,X.fn x=θ)(hk:X.env.scope.kind=.function)(n:Cn L tb G c X):∀(a:S)(ss:η J6),fB L tb c a ss=θ->GS G X ss (evS tb a)
 |.nil=>λss h=>by
  cases ss with
  |nil=>exact B0
  |cons _ _=>cases h
 |.sq s r=>λss h=>by
  cases ss<;>try(cases h;done)
  replace h:=qc7.mp h
  exact xK (gS hf hk n s _ h.1) (gB hf hk n r _ h.2)
 |.fz i r=>λss h=>B4 (gB hf hk n r ss h)
 |.set _ _|.un _ _|.put _ _ _|.pts _ _ _|.fl _ _ _ _|.fa _ _ _ _ _|.au _ _ _|.dr _|.ap _ _|.aps _ _|.cl _ _|.up _ _|.rt _|.rn|.cd _ _ _|.fo _ _ _|.wh _ _ _=>λ_ h=>noT h
end
end
end L2
namespace L2
open PySem PySem.Spec PyProof.Rows
noncomputable def cK(m:Nat)(g:Fs):Fd:=λcs ch=>match g (cs.map ς++qb1 (m-cs.length) ψ) ch with
 |some (.rt c ch')=>ς (c,ch')
 |some (.nx _ ch')=>ς (.g .non,ch')
 |_=>ψ
variable{ch:CH}{cs:η CV}{vs:η V}
theorem l7{G:Gx}{F H:Hp}{ρ:Nat->J4}{N:η Str}(g:Gh G F H ρ ch)(r:RelCs G F H ρ ch.length cs vs)(U:∀t,CV.own θ t∉cs):Ge G ⟨F,H,ρ,ch⟩ (cs.map ς++qb1 (N.length-cs.length) ψ) ch (dE N vs) F H ρ:=by
 have hl:=Paired.length r
 have O:∀(i:Nat)(c:CV),(cs.map ς++qb1 (N.length-cs.length) ψ)[i]?=ς (ς c)->cs[i]?=ς c:=λi c h=>by
  by_cases hi:i<cs.length
  .rw[qj2 ‹hi›,qa8]at h;have⟨x,h1,h2⟩:=mS h;cases h2;exact h1
  .rw[qf0 ‹hi›]at h;have:=qa4 h;rw[List.mem_replicate]at this;cases this.2
 refine⟨.refl g,by simp[dE,hl],λi c h=>?_,λi t a h=>absurd (qa4 (O i _ h)) (U t),λi j t u b a _ h=>absurd (qa4 (O i _ h)) (U t)⟩;have⟨v,h1,h2⟩:=Paired.get r (O i c h);refine⟨v,?_,h2⟩;unfold dE;rw[qj2 ‹ai h1›,qa8,h1];rfl
noncomputable def kM(p:Arguments):Bool:=p.posonlyargs.isEmpty&&p.vararg.isNone&&p.kwonlyargs.isEmpty&&p.kwarg.isNone&&decide (p.args.map (·.arg)).Nodup
theorem nH{ns:η Str}:∀{us:η Value},ns.Nodup->us.length=ns.length->ns.filterMap (λn=>((ns.zip us).lookup n).map λv=>(n,v))=ns.zip us:=by
 suffices H:∀(ns:η Str)(us:η Value)(O:η (Str×Value)),ns.Nodup->us.length=ns.length->(∀n∈ns,O.lookup n=ψ)->ns.filterMap (λn=>((O++ns.zip us).lookup n).map λv=>(n,v))=ns.zip us from λ{us} W hl=>H ns us [] W hl λ_ _=>rfl
 intro ns;induction ns with
 |nil=>intro us O _ _ _;rfl
 |cons n ns Z=>
  intro us O W hl hp;cases us with
  |nil=>cases hl
  |cons u us=>
   have U:=qc6.mp W
   have e1:(O++(n,u)::ns.zip us).lookup n=ς u:=by rw[List.lookup_append,hp n qk0];simp[ql3]
   rwa[List.zip_cons_cons,qr0,e1,qa9];congr 1
   have:=Z us (O++[(n,u)]) U.2 ‹hl› λm Y=>by
    rw[List.lookup_append,hp m (qe7 _ Y)];have:(m==n)=ξ:=by simpa using λe=>U.1 (by rw[<- e];exact Y)
    simp[ql3,this]
   rw[qd8]at this;exact this
theorem nI{fd:qu0}(hp:kM fd.params=θ)(Y:fd.defaults=.none){us:η Value}(hl:us.length=fd.params.args.length):zg0 fd ⟨us,[]⟩=pure ((fd.params.args.map (·.arg)).zip us):=by
 unfold kM at hp;rwa[qa1,decide_eq_true_eq,qi5,qn0]at hp;have⟨⟨⟨⟨h1,h2⟩,Z⟩,h4⟩,h5⟩:=hp;have hz:=nH (us:=us) h5 ‹hl›;have hs:seqItems? qh0=(pure ψ:Sem (ζ (Array Value))):=rfl
 have hm:((fd.params.args.map (·.arg)).filter λn=>((((fd.params.args.map (·.arg)).zip us).lookup n)).isNone)=[]:=by
  rw[List.filter_eq_nil_iff];intro n hn he;rw[qn0]at he;have h7:n∈((fd.params.args.map (·.arg)).zip us).map (·.1):=by rw[za6 (by simp[hl])];exact hn
  rw[<- hz]at h7;have⟨⟨a,b⟩,h8,h9⟩:=qb9.mp h7;have⟨m,_,U⟩:=qx0.mp h8;have⟨v,O,W⟩:=mS U;cases W;cases h9;rw[he]at O;cases O
 have⟨nm,qn,⟨po,as,va,ko,kd,ka,df⟩,bd,sc,gl,cl,dfs,kdf,doc,pm,an,cd,ct,bi⟩:=fd;simp only at h1 h2 Z h4 Y hl hm hz ⊢;subst h1 h2 Z h4 Y;unfold zg0;have hl:us.length=(as.map (·.arg)).length:=‹hl›
 rwa[qf8,qp3,qe5,hs,pure_bind,za5,List.forIn_nil];clear h5;generalize as.map (·.arg)=ns at*
 have e1:List.drop (0-ns.length) ([]:η Value)=[]:=List.drop_nil;have e2:ns.take ns.length=ns:=List.take_length;have e3:¬ (us.length > ns.length):=by lia
 rwa[List.toList_toArray,qf6,e1,qx4,e2,hm,List.isEmpty_nil,qs8,qe9,if_false,qq8,List.zip_nil_right,List.forIn_nil,pure_bind,hz,decide_eq_false e3,Bool.false_and]
set_option backward.match.sparseCases true
inductive Kd where
 |fn|me (c:Nat)|mk (c:Nat)
structure Df where
 kd:Kd
 nm:Str
 m:Nat
 n:Nat
 b:S
noncomputable def Cp(N ps:η Str)(sc:J9):Bool:=decide (sc.kind=.function)&&!sc.isCoroutine&&!sc.isGenerator&&decide N.Nodup&&decide (N.take ps.length=ps)&&ps.all (λx=>decide (sc.names.lookup x=ς .local)||decide (sc.names.lookup x=ς .cell))&&sc.names.all λy=>decide (y.2≠.free)
theorem yt{N ps:η Str}{sc:J9}(h:Cp N ps sc=θ):FnScope N ps sc:=by unfold Cp at h;rwa[qa1,decide_eq_true_eq,qj1,qc0,qh2]at h;have⟨⟨⟨⟨⟨⟨h1,h2⟩,O⟩,h4⟩,Y⟩,U⟩,W⟩:=h;exact⟨h1,h2,O,h4,Y,U,W⟩
noncomputable def yu:Value->Bool
 |.none=>θ
 |_=>ξ
def rT(K:xA9)(L:Lw)(tb:Tb)(nm q:Str)(d:Df)(fd:qu0):Bool:=match fd.body with
 |.stmts b=>(fd.name==nm)&&(fd.qualname==q)&&(fd.globals==qf2)&&fd.closure.isEmpty&&(fd.builtins==ze8)&&yu fd.defaults&&PySem.W.codeIn K fd.code q&&kM fd.params&&decide (fd.params.args.map (·.arg)=(bO fd.scope).take d.n)&&(decide (d.n<=d.m)&&decide ((bO fd.scope).length=d.m))&&Cp (bO fd.scope) ((bO fd.scope).take d.n) fd.scope&&fB L tb ⟨fd.scope,bO fd.scope⟩ d.b b
 |_=>ξ
noncomputable def dU(K:xA9)(f:J4):ζ qu0:=match K.lookup f with
 |some o=>(match o.data with
  |.func fd=>ς fd
  |_=>ψ)
 |none=>ψ
structure Ev0(L:Lw)(gc:List (Str×Dt))(G:Gx)(mg:Str->Option Value):Prop where
 ct:G.ct=L.ct
 k2:dO G.K=θ
 bl:∀x∈L.bl,mg x=ψ
 gc:∀p∈gc,zH G.K mg p.1 p.2
 cls:∀c,jq G c
 ks:∀s∈L.ks,kj G.K s
section
variable{L:Lw}{tb:Tb}{G:Gx}{P:qe3}{w:J5}{mg:Str->ζ Value}{base:Heap}{d:Df}{fd:qu0}{f:J4}{nm q:Str}
omit x in
theorem kN (E:Ev0 L tb.gc G mg) (ht:∀ e∈tb.f,EnP G P w G.K mg base (lev tb.f.length) e) (Y:dU G.K f=ς fd) (h:rT G.K L tb nm q d fd=θ) :
  FnOk P w G.K mg base CX0 (lev tb.f.length+2) f fd ((bO fd.scope).take d.n) (spZ G d.n (cK d.m (evS tb d.b)))/\Binds G.K fd ((bO fd.scope).take d.n) []/\∀us:η Value,us.length=((bO fd.scope).take d.n).length->zg0 fd ⟨us,[]⟩=pure (((bO fd.scope).take d.n).zip us):=by
 unfold rT at h;rcases h
 rename_i b hb;rwa[qa1,beq_iff_eq,decide_eq_true_eq,qi5]at h;have⟨⟨⟨⟨⟨⟨⟨⟨⟨⟨⟨h1,h2⟩,h3⟩,h4⟩,h5⟩,h6⟩,h7⟩,h8⟩,h9⟩,h10⟩,h11⟩,h12⟩:=h;have Z:((bO fd.scope).take d.n).length=d.n:=by rw[qq4];lia
 have hm:=h10.2
 have W:∀us:η Value,us.length=((bO fd.scope).take d.n).length->zg0 fd ⟨us,[]⟩=pure (((bO fd.scope).take d.n).zip us):=λus hu=>by
  have hd:fd.defaults=.none:=by cases q:fd.defaults<;>rw[q]at h6<;>first|rfl|cases h6
  rw[<- h9];exact nI h8 hd (by rw[<- h9]at hu;simpa using hu)
 refine⟨?_,.all W,W⟩;clear W h6 h8;unfold dU at Y;rcases Y
 rename_i o ho;split at Y<;>cases Y
 rename_i U;have⟨nm',qn,ps,bd,sc,gl,cl,dfs,kdf,doc,pm,an,cd,ct,bi⟩:=fd;have⟨oc,od,dta,osl⟩:=o;simp only at h1 h2 h3 h4 h5 h7 h9 h11 h12 hb U;subst h1 h2 h3 h4 h5 hb U;have S:=yt h11;refine D0 (k:=lev tb.f.length+1) ho h7 S (λvs H Q _ hq1=>by have⟨F,ρ,cs,ch,c,ch',g,hn,_,r,_⟩:=hq1;rw[<- Paired.length r,Z];exact hn) λA outer s H vs Q E' hr hsp=>?_
 have⟨F,ρ,cs,ch,c,ch',g,hn,ho2,r,O,k⟩:=hsp;have n:Cn L tb G ⟨sc,bO sc⟩ (qy CX0 P w G.K mg base (bO sc) qn sc f cd A outer s H E').nox:=⟨rfl,E.ct,E.k2,rfl,rfl,S.nd,rfl,hr,E.bl,E.gc,E.cls,E.ks,ht,rfl⟩;refine⟨_,(gB (λ_=>rfl) S.kind n d.b b h12).nox,?_⟩;unfold cK at O;simp only at hm;rw[<- hm]at O;rcases O
 .rename_i c1 ch1 hg;cases O;exact⟨_,_,ch,F,ρ,_,l7 g r ho2,hg,λv F' H' ρ' a rr=>k v F' H' ρ' a rr⟩
 .rename_i δ1 ch1 hg;cases O;refine⟨_,_,ch,F,ρ,_,l7 g r ho2,hg,λσ' F' H' ρ' en=>k .non F' H' ρ' en.ad ?_⟩;show Rep G.K F' .non .non;exact oK
end
noncomputable def Df.en(d:Df)(F:Fd):En:=match d.kd with
 |.fn=>.fn d.nm d.n F
 |.me c=>.me c d.nm d.n F
 |.mk c=>.mk c d.n F
def av(gc:η (Str×Dt)):η Df->Tb
 |[]=>⟨[],gc⟩
 |d::r=>⟨d.en (cK d.m (evS (av gc r) d.b))::(av gc r).f,gc⟩
def FF(gc:η (Str×Dt)):η Df->Fd
 |[]=>λ_ _=>ψ
 |d::r=>cK d.m (evS (av gc r) d.b)
noncomputable def kQ(K:xA9)(ct:η (Str×η Str))(c:Nat):ζ (Str×J4):=match ct[c]? with
 |some p=>(match xD9 K qf2 p.1 with
  |some (ς (.ref C))=>ς (p.1,C)
  |_=>ψ)
 |none=>ψ
def yv(K:xA9)(L:Lw)(tb:Tb)(d:Df):Bool:=match d.kd with
 |.fn=>(match xD9 K qf2 d.nm with
  |some (ς (.ref f))=>xF9 K (.ref f)&&(match dU K f with|some fd=>rT K L tb d.nm d.nm d fd|none=>ξ)
  |_=>ξ)
 |.me c=>(match kQ K L.ct c with
  |some (O,C)=>(match xB9 K (.ref C) d.nm with
   |some (ς (.ref f))=>xH9 K (.ref f)&&xF9 K (.ref f)&&(match dU K f with|some fd=>rT K L tb d.nm (O++(".":Str)++d.nm) d fd|none=>ξ)
   |_=>ξ)
  |none=>ξ)
 |.mk c=>(match kQ K L.ct c with
  |some (O,C)=>xS9 K C&&xF9 K (.ref C)&&(match xB9 K (.ref C) "__init__" with
   |some (ς (.ref f))=>xH9 K (.ref f)&&(match dU K f with|some fd=>rT K L tb "__init__" (O++(".__init__":Str)) d fd|none=>ξ)
   |_=>ξ)
  |none=>ξ)
def noDf(K:xA9)(nm x:Str):Bool:=match xD9 K qf2 nm with
 |some (ς (.ref f))=>(match dU K f with|some fd=>decide (fd.params.args.map (·.arg)=[x])&&decide ((bO fd.scope).take 1=[x])|none=>ξ)
 |_=>ξ
def vc(K:xA9)(L:Lw)(gc:η (Str×Dt)):η Df->Bool
 |[]=>θ
 |d::r=>yv K L (av gc r) d&&vc K L gc r
variable{j:Nat}{K:xA9}{tb:Tb}
section
variable{L:Lw}{gc:η (Str×Dt)}{G:Gx}{P:qe3}{w:J5}{mg:Str->ζ Value}{base h:Heap}
theorem EnP.mono{k:Nat}{e:En}(O:j<=k)(x:EnP G P w G.K mg base j e):EnP G P w G.K mg base k e:=by
 cases e with
 |fn y n F=>have⟨ps,f,fd,h1,h2,U,h4⟩:=x;exact⟨ps,⟨f,fd,h1,h2,U,h4.mono O⟩⟩
 |me c m n F=>intro p hp;have⟨ps,C,f,fd,h1,h2,U,h4,W⟩:=x p hp;exact⟨ps,⟨C,f,fd,h1,h2,U,h4,W.mono O⟩⟩
 |mk c n F=>intro p hp;have⟨ps,C,f,fd,h1,h2,U,h4,W⟩:=x p hp;exact⟨ps,⟨C,f,fd,h1,h2,U,h4,W.mono O⟩⟩
omit x in
theorem jF{ct:η (Str×η Str)}{c:Nat}{x:Str×J4}(h:kQ K ct c=ς x):∃p,ct[c]?=ς p/\p.1=x.1/\ClsAt K p.1 x.2:=by
 unfold kQ at h;rcases h
 rename_i p hp;split at h<;>cases h
 rename_i C O;exact⟨p,hp,rfl,O⟩
theorem io:∀ds:η Df,(av gc ds).gc=gc
 |[]=>rfl
 |_::_=>rfl
theorem jG:∀ds:η Df,(av gc ds).f.length=ds.length
 |[]=>rfl
 |_::r=>by simp[av,jG r]
omit x in
theorem yw{d:Df}(X:G.K.In h)(N:h.Ns qf2 mg)(E:Ev0 L tb.gc G mg)(ht:∀e∈tb.f,EnP G P w G.K mg base (lev tb.f.length) e)(hc:yv G.K L tb d=θ):EnP G P w G.K mg base (lev tb.f.length+2) (d.en (cK d.m (evS tb d.b))):=by
 unfold yv at hc;unfold Df.en
 have fin:∀{f:J4}{nm q:Str},(match dU G.K f with|some fd=>rT G.K L tb nm q d fd|none=>ξ)=θ->∃fd,FnOk P w G.K mg base CX0 (lev tb.f.length+2) f fd ((bO fd.scope).take d.n) (spZ G d.n (cK d.m (evS tb d.b)))/\Binds G.K fd ((bO fd.scope).take d.n) []:=λ{f nm q} h=>by
  rcases h
  rename_i fd hfd;have⟨h1,h2,_⟩:=kN E ht hfd h;exact⟨fd,h1,h2⟩
 cases q:d.kd with
 |fn=>
  rw[q]at hc;dsimp only at hc ⊢;rcases hc
  rename_i f Y;rw[qa1]at hc;have⟨fd,h1,h2⟩:=fin hc.2;exact⟨_,⟨f,fd,xN9 X N Y,hc.1,h2,h1⟩⟩
 |me c=>
  rw[q]at hc;dsimp only at hc ⊢;rcases hc
  rename_i cn C U;rcases hc
  rename_i f Y;rwa[qa1]at hc;have⟨fd,h1,h2⟩:=fin hc.2;have⟨p,hp,_,hat⟩:=jF U;intro p' O;rw[E.ct,hp]at O;cases O;have⟨C',Z,hcs,_⟩:=E.cls c p (by rw[E.ct];exact hp);have:=hat.inj Z;subst this;exact⟨_,⟨C,f,fd,hat,hcs,⟨Y,hc.1.1,hc.1.2⟩,h2,h1⟩⟩
 |mk c=>
  rw[q]at hc;dsimp only at hc ⊢;rcases hc
  rename_i cn C U;rwa[qa1]at hc;have⟨⟨h3,h4⟩,hc⟩:=hc;rcases hc
  rename_i f Y;rw[qa1]at hc;have⟨fd,h1,h2⟩:=fin hc.2;have⟨p,hp,_,hat⟩:=jF U;intro p' O;rw[E.ct,hp]at O;cases O;exact⟨_,⟨C,f,fd,hat,xN9 X N hat,⟨h3,Y,hc.1,h4⟩,h2,h1⟩⟩
theorem kR(X:G.K.In h)(N:h.Ns qf2 mg)(E:Ev0 L gc G mg):∀{ds:η Df},vc G.K L gc ds=θ->∀e∈(av gc ds).f,EnP G P w G.K mg base (lev (av gc ds).f.length) e
 |[],_,e,he=>by cases he
 |d::r,hc,e,he=>by
  rwa[vc,qa1]at hc;have O:=kR X N E (ds:=r) hc.2;have hl:lev (av gc (d::r)).f.length=lev (av gc r).f.length+2:=by simp[av,lev];lia
  rw[hl];rcases qc3.mp he with rfl|he
  .exact yw X N (by rw[io];exact E) O hc.1
  .exact(O e he).mono (Nat.le_add_right _ _)
noncomputable def zS:Value->Dt->Bool
 |.int i _,.int j=>i==j
 |.str x _,.str y=>x==y
 |_,_=>ξ
def gcOk(K:xA9)(p:Str×Dt):Bool:=match xD9 K qf2 p.1 with
 |some (ς u)=>zS u p.2
 |_=>ξ
noncomputable def clOk(K:xA9)(p:Str×η Str):Bool:=match xD9 K qf2 p.1 with
 |some (ς (.ref C))=>xJ9 K C Str.empty&&xL9 K C&&xQ9 K C&&(xB9 K (.ref C) "__setattr__"==ς (ς (.builtin "object.__setattr__")))&&decide p.2.Nodup&&p.2.all λf=>xB9 K (.ref C) f==ς ψ
 |_=>ξ
noncomputable def tyNames:η String:=["NoneType","bool","int","str","tuple","list","dict"]
noncomputable def iX(c t:String):Bool:=(t==c)||(t=="bool"&&c=="int")
def ksOk(K:xA9)(c:String):Bool:=tyNames.all λt=>xI9 K (.type t) (.type c)==ς (iX c t)
def ev0(K:xA9)(L:Lw)(gc:η (Str×Dt)):Bool:=dO K&&L.bl.all (λx=>xD9 K qf2 x==ς ψ)&&gc.all (gcOk K)&&L.ct.all (clOk K)&&L.ks.all (ksOk K)
omit x in
theorem yx{c:String}(h:ksOk K c=θ):kj K c:=λd _=>by
 have O:∀t∈tyNames,xI9 K (.type t) (.type c)=ς (iX c t):=λt U=>beq_iff_eq.mp (qc0.mp h t U)
 cases d
 case bl b=>
  refine(O "bool" (by simp[tyNames])).trans ?_;rwa[iX,cS,qz9 (a:="bool")];rfl
 case non=>refine(O "NoneType" (by simp[tyNames])).trans ?_;simp[iX,cS,qz9 (a:="NoneType")]
 case int i=>refine(O "int" (by simp[tyNames])).trans ?_;simp[iX,cS,qz9 (a:="int")]
 case str i=>refine(O "str" (by simp[tyNames])).trans ?_;simp[iX,cS,qz9 (a:="str")]
 case t i=>refine(O "tuple" (by simp[tyNames])).trans ?_;simp[iX,cS,qz9 (a:="tuple")]
 case e i=>refine(O "list" (by simp[tyNames])).trans ?_;simp[iX,cS,qz9 (a:="list")]
 case dct a b=>refine(O "dict" (by simp[tyNames])).trans ?_;simp[iX,cS,qz9 (a:="dict")]
 case dcT a b=>refine(O "dict" (by simp[tyNames])).trans ?_;simp[iX,cS,qz9 (a:="dict")]
omit x in
theorem Cq(X:K.In h)(N:h.Ns qf2 mg)(hc:ev0 K L gc=θ):Ev0 L gc ⟨K,L.ct⟩ mg:=by
 unfold ev0 at hc;rwa[qa1,qc0]at hc;have⟨⟨⟨⟨h1,h2⟩,h3⟩,h4⟩,h5⟩:=hc;refine⟨rfl,h1,λx Z=>PySem.W.mg_none_of X N (beq_iff_eq.mp (h2 x Z)),λp hp=>?_,λc p hp=>?_,λs U=>yx (h5 s U)⟩
 .have h:=h3 p hp;unfold gcOk at h;rcases h
  rename_i u hu;have O:=xN9 X N hu;unfold zS at h;rcases h
  .rename_i i t j e;rw[e];rw[beq_iff_eq]at h;subst h;exact⟨.int i,⟨_,O,_,rfl⟩,λ_=>bh⟩
  .rename_i i t j e;rw[e];rw[beq_iff_eq]at h;subst h;exact⟨.str i,⟨_,O,_,rfl⟩,λ_=>eC⟩
 .have h:=h4 p (qa4 hp);unfold clOk at h;rcases h
  rename_i C hC;rwa[qa1,qc0,decide_eq_true_eq]at h;have⟨⟨⟨⟨⟨q1,q2⟩,Y⟩,q4⟩,q5⟩,q6⟩:=h;exact⟨C,hC,⟨q1,q2,Y,beq_iff_eq.mp q4⟩,q5,λf hf=>beq_iff_eq.mp (q6 f hf)⟩
end
def spL(K:xA9):Sp:=λvs H Q _=>∃(a:J4)(ns:η Int),vs=[.ref a]/\SqL K H a (ns.map V.int)/\ns.length<=63/\∀H',Q (.bl θ) H'
omit x in
theorem zwalk {l:PySem.W.OpenLaw} {q:qe3} {Z:η Str} {XP:(Str->ζ Value)->Heap->Prop} {YP:J5->Heap->Prop} {d:DefRec} {K:Params->xA9} (L:Lw) (gc:η (Str×Dt)) {d0:Df} {r:η Df} {x:Str} (main:∀ ns:η Int,ns.length<=63->∃ ch',FF gc (d0::r) [.g (.e (ns.map .int))] []=ς (.g (.bl θ),ch'))
  (hd:d0.kd=.fn/\d0.nm=d.name/\d0.n=1) (hr:Room (lev r.length+2) zd5) (hn:l.most=ς 63) (hdf:d.params.defaults=[])
  (hY:∀(w:J5)(h:Heap),YP w h->(K w.params).In h) (hT0:∀w:J5,lw (K w.params)=[])
  (hc:∀w:J5,(ev0 (K w.params) L gc&&vc (K w.params) L gc (d0::r)&&noDf (K w.params) d0.nm x)=θ):PySem.W.WalkO q Z XP YP l.row.toRowW d [] (λf vs=>PySem.call f vs):=by
 refine L2.FX (n:=63) (k:=lev r.length+2) (x:=x) (CX:=λ_=>CX0) (sp:=λw=>spL (K w.params)) hn Ω hdf hr hY hT0 (λw mg fa h KX N hfa=>?_) (λ_ _ a ns hl hO hS=>⟨a,ns,rfl,hS,hl,λ_=>rfl⟩) λ_ _ _ _ _ z=>z
 have hw:=hc w;rwa[qa1]at hw;have⟨hw,O⟩:=hw;have E:=Cq KX N hw.1;have⟨hkd,hnm,hn1⟩:=hd;have U:=hw.2;rwa[vc,qa1]at U;have h1:=U.1;unfold yv at h1;rw[hkd]at h1;dsimp only at h1;rcases h1
 rename_i f hf;rw[qa1]at h1
 have hff:f=fa:=by have e:=xN9 KX N hf;rw[hnm,hfa]at e;cases e;rfl
 subst hff;have h2:=h1.2;rcases h2
 rename_i fd hfd;unfold noDf at O;rw[hf]at O;dsimp only at O;rw[hfd]at O;rwa[qa1,decide_eq_true_eq]at O;have Y:(bO fd.scope).take d0.n=[x]:=by rw[hn1];exact O.2
 have hb:=(kN (P:=l.prog) (w:=w) (base:=h) (f:=f) (G:=⟨K w.params,L.ct⟩) (tb:=av gc r) (by rw[io];exact E) (kR KX N E U.2) hfd h2).2.2;refine⟨fd,λs u=>.of_eq ?_,λbase hb1 hb2=>?_⟩
 .have:=hb [u] (by rw[Y];rfl);rw[Y]at this;exact this
 .have hok:=(kN (P:=l.prog) (w:=w) (base:=base) (f:=f) (G:=⟨K w.params,L.ct⟩) (tb:=av gc r) (by rw[io];exact E) (kR KX N E U.2) hfd h2).1;rw[Y,jG]at hok;refine hok.imp λvs H Q E' hsp=>?_
  have⟨a,ns,rfl,hS,hl,q⟩:=hsp;have⟨ch',hm⟩:=main ns hl;refine⟨H,λ_=>a,[.g (.e (ns.map .int))],[],.g (.bl θ),ch',⟨Same.refl H,λi j hi=>absurd hi (Nat.not_lt_zero _),λi o hi=>by simp at hi,λi o hi=>by simp at hi⟩,by rw[hn1];rfl,λt=>Ξ,.cons ?_ .nil,hm,λv F' H' ρ' _ o=>?_⟩
  .show Rep (K w.params) H (.e (ns.map .int)) (.ref a);rwa[Rep];exact⟨a,_,rfl,hS,Reps.map (λ_=>bh) ns⟩
  .have o:Rep (K w.params) F' (.bl θ) v:=o;rwa[Rep]at o;subst o;exact q H'
noncomputable def isKBq:Dt->ζ (η Key)
 |.t [.int n,.str s]=>ς [.inl n,.inr s]
 |_=>ψ
section
variable{X:Cx}
def gSlW:Dt->ζ Int->ζ Int->ζ T
 |.t l,lo,hi=>if HT.sIx l.length 0 lo=0/\HT.sIx l.length l.length hi=l.length then ς (.f (.t l))else ς (.f (.t (ki l lo hi)))
 |x,lo,hi=>gSl x lo hi
def vd(K:xA9):R2:=λx y H Q=>∃a b z xs,x=.ref a/\y=.ref b/\SqT K H a (z::xs)/\SqT K H b []/\Q (.ref a) H
theorem yy:OpR X (qi0 .Add) (vd X.K):=by
 intro J0 s σ H x y v u Q I rx ry h;have⟨a,b,z,xs,rfl,rfl,ha,hb,q⟩:=h;cases rx;cases ry;have⟨J3,r1,p1,_⟩:=I.tuple ha;have⟨its2,r2,p2,_⟩:=I.tuple hb;cases r2;have⟨⟨cls,dd,data,sl⟩,ho,hc,n,hd⟩:=id p1;have⟨⟨cls2,Z,Y,W⟩,ho2,O,n2,U⟩:=id p2;simp only at hc hd O U;subst hc hd O U
 exact qx3 ⟨_,ho,rfl⟩ ⟨_,ho2,rfl⟩ qu8 qz6 PySem.F.slot_tuple_add PySem.F.entry_tuple_add (PySem.F.args_tuple_add_2 _ _)
  (tuple_addW1 a b J3.toArray #[] n n2 dd Z sl W (by cases r1;simp) rfl) ⟨ho,ho2,⟨.ref a,H,I,rfl,q⟩⟩
def ip:Dt->Dt->ζ T
 |.t (d::l),.t []=>ς (.f (.t (d::l)))
 |x,y=>uD x y
theorem yz:OpR X (qi0 .Add) (λx y H Q=>(lT X.K x y H Q\/jo X.K x y H Q)\/vd X.K x y H Q):=OpR.or xQ yy
omit x in
theorem Cr:R2D K (λx y H Q=>(lT K x y H Q\/jo K x y H Q)\/vd K x y H Q) ip:=by
 intro F H x y vx vy Q t W Y Z U k;unfold ip at U;split at U
 .rename_i d l;cases U;have⟨a,vs,rfl,h1,h2⟩:=Y;have⟨b,ws,rfl,h3,h4⟩:=Z;rwa[Reps]at h4;subst h4;have O:=h2;rwa[Reps]at O;have⟨v,us,rfl,_,_⟩:=O;refine .inr ⟨a,b,v,us,rfl,rfl,W.tup h1,W.tup h3,k.leaf.here W ?_⟩;rwa[Rep];exact⟨a,_,rfl,h1,h2⟩
 .exact .inl (B8 F H _ _ vx vy Q t W Y Z U k)
end
def ve:Dt->Dt->ζ T
 |.str x,.int n=>if 0<=n/\n<=1000/\x.length<=1000 then ς (.f (.str (B6 x n)))else ψ
 |_,_=>ψ
def zT:R2:=λx y H Q=>∃z n,x=.str z/\y=.int n/\(0<=n/\n<=1000/\z.length<=1000)/\Q (.str (B6 z n)) H
variable{z:Str}
theorem Cs{n:Int}(h:0<=n/\n<=1000/\z.length<=1000):MulOk z n:=by
 have⟨W,h1,h2⟩:=h;refine⟨?_,λh _=>?_,λh _=>?_⟩
 .have O:decide (n < -(2^63:Int))=ξ:=decide_eq_false Θ;have e2:decide (n ≥ 2^63)=ξ:=decide_eq_false Θ;rw[O,e2];rfl
 .have e:(1000:Int)<=(2^63-1)/n:=(Int.le_ediv_iff_mul_le Θ).mpr Θ;lia
 .have e:z.length*n.toNat<=1000*1000:=Nat.mul_le_mul h2 Θ;have U:qa5=16777216:=qc1;exact decide_eq_false Θ
variable{X:Cx}
theorem yA:OpR X (qi0 .Mult) zT:=by intro J0 s σ H x y v u Q I O U h;have⟨z,n,rfl,rfl,hb,q⟩:=h;have⟨t,rfl⟩:=O;have⟨t',rfl⟩:=U;exact SB.mul (Cs hb) λt2 k=>⟨.str (B6 z n),H,I.tok _,⟨_,rfl⟩,q⟩
omit x in
theorem Ct:R2D K zT ve:=by
 intro F H x y vx Z Q t W U Y O k;unfold ve at O;rcases O
 split at O<;>cases O
 rename_i h;cases U;cases Y;exact⟨_,_,rfl,rfl,h,k.str W⟩
noncomputable def l8:Dt->Dt->ζ T
 |.e l,.int n=>if 0<=n/\n<=1000/\l.length<=1000 then ς (.e (qb1 n.toNat l).flatten)else ψ
 |_,_=>ψ
theorem Ew (a:Int) (t:Tok) (l:J4) (J3:Array Value) (n:Nat) (sl:Array (ζ Value)) :
  Meets (qj8.«int.__rmul__» ⟨[.int a t,.ref l],[]⟩) (λ_ R s=>s.heap.get? l=ς {cls:=.type "list",dict:=ψ,data:=.seq J3 n,slots:=sl}/\R (.ok (.ret Value.notImplemented)) s):=
 .of_wp λprog w A R s h=>by have⟨hp,g,d,O,U⟩:=s;have⟨hl,h⟩:=h;wp_walk;exact⟨_,rfl,h⟩
theorem mulL (l:J4) (J3:Array Value) (n:Nat) (sl:Array (ζ Value)) (x:Int) (u:Tok) (Y:¬(!Builtin.List.listFitsIndex x)=θ) (h1:¬J3.size*x.toNat > (2^63-1)/8) (h2:¬qr9 (J3.size*x.toNat)=θ) (hsz:(zd1 (λO U=>O++U) #[] (qb1 (if J3.isEmpty=θ then 0 else x.toNat) J3)).size<=qa5) :
  Meets (qj8.«list.__mul__» ⟨[.ref l,.int x u],[]⟩) (λ_ R s=>s.heap.get? l=ς {cls:=.type "list",dict:=ψ,data:=.seq J3 n,slots:=sl}/\R (.ok (.ret (qb6 s.heap.objs.size))) {s with heap:=s.heap.push {cls:=qp4 "list",data:=Data.seq (zd1 (λO U=>O++U) #[] (qb1 (if J3.isEmpty=θ then 0 else x.toNat) J3))},toks:=s.toks}):=
 .of_wp λprog w A R s h=>by have⟨hp,g,d,W,Z⟩:=s;have⟨hl,h⟩:=h;wp_walk;refine wpAny_ite_false (decide_eq_false (qo2.mpr hsz)) ?_;wp_walk;exact⟨_,rfl,h⟩
def zU(K:xA9):R2:=λx y H Q=>∃l k xs,x=.ref l/\y=.int k/\SqL K H l xs/\(0<=k/\k<=1000/\xs.length<=1000)∧∀p,H p=ψ->Q (.ref p) (upd H p (.e (qb1 k.toNat xs).flatten))
theorem yB:OpR X (qi0 .Mult) (zU X.K):=by
 intro J0 s σ H x y v u Q I rx ry h;have⟨l,k,xs,rfl,rfl,hH,⟨h0,h1,hx⟩,q⟩:=h;cases rx;have⟨t,rfl⟩:=ry;have⟨J3,r,pl,_⟩:=I.list hH;have⟨⟨cls,dd,data,sl⟩,n,Z,hc,W,hd⟩:=pl;simp only at hc hd W;subst hc hd W;have hl:=r.length;have hk:k.toNat<=1000:=by lia
 have hm:J3.length*k.toNat<=1000*1000:=Nat.mul_le_mul Θ hk;have hs:qa5=16777216:=qc1;have Y:J3.toArray.size*k.toNat<=qa5:=by rw[qb5];lia
 have O:zd1 (λx1 x2=>x1++x2) #[] (qb1 (if J3.toArray.isEmpty=θ then 0 else k.toNat) J3.toArray)=(qb1 k.toNat J3).flatten.toArray:=by
  have f0:∀m:Nat,zd1 (λx1 x2=>x1++x2) #[] (qb1 m J3.toArray)=(qb1 m J3).flatten.toArray:=λm=>by have:=jd J3 m [];rw[qp3]at this;exact this
  rw[f0];cases J3 with
  |nil=>simp
  |cons a r'=>rw[if_neg Ξ]
 refine wpAny_binaryOp_repeat_ref (T:="list") (U:="int") Ω ⟨_,Z,rfl⟩ (λs'=>typeIs_int s' k t) noFill_list_mul F.fills_int_mul F.slot_int_rmul repeat_list F.slot_int_index.lookup
  (qv8 F.slot_int_rmul (typeIs_int s k t) F.entry_int_rmul (F.args_int_rmul_2 _ _) (Ew k t l J3.toArray n sl)
   ⟨Z,rfl,⟨_,Z,rfl⟩,qv8 F.slot_list_mul ⟨_,Z,rfl⟩ F.entry_list_mul (F.args_list_mul_2 _ _) (mulL l J3.toArray n sl k t (by
    rw[fitsIndex_both Θ Θ];exact qb7) (by
    have:(qa5:Nat)<=(2^63-1)/8:=by decide
    lia) (by
    rw[tj Y];exact qb7) (by
    rw[O,qb5,oF,Nat.mul_comm];lia)) ⟨Z,?_⟩⟩)
 rw[O];exact⟨.ref _,_,I.lnew (t':=s.toks) (r.rep k.toNat) (by rw[oF,Nat.mul_comm,hl];lia),rfl,q _ I.fresh⟩
variable{l:η Dt}
theorem Reps.rep{F:Hp}(h:Reps K F l vs):∀n:Nat,Reps K F (qb1 n l).flatten (qb1 n vs).flatten
 |0=>by simp[Reps]
 |n+1=>by rw[qg2,qg2,ql2,ql2];exact h.append (Reps.rep h n)
omit x in
theorem Cu:R2D K (zU K) l8:=by
 intro F H x y vx Z Q t U W Y O k;unfold l8 at O;rcases O
 split at O<;>cases O
 rename_i hl;have⟨a,vs,rfl,h1,h2⟩:=W;cases Y;exact⟨a,_,vs,rfl,rfl,h1,⟨hl.1,hl.2.1,by rw[h2.length];exact hl.2.2⟩,λp hp=>bP k U (Reps.rep h2 _) hp⟩
noncomputable def orO(g g':Dt->Dt->ζ T)(x y:Dt):ζ T:=match g x y with
 |some t=>ς t
 |none=>g' x y
omit x in
theorem R2D.or{r U:R2}{g g':Dt->Dt->ζ T}(h:R2D K r g)(h':R2D K U g'):R2D K (λx y H Q=>r x y H Q\/U x y H Q) (orO g g'):=λF H x y vx Z Q t W Y ry O k=>by
 unfold orO at O;split at O
 .rename_i u hu;cases O;exact .inl (h F H x y vx Z Q _ W Y ry hu k)
 .exact .inr (h' F H x y vx Z Q t W Y ry O k)
noncomputable def yC:Dt->Dt->ζ T
 |.int i,.int j=>if 0<=j then ς (.f (.int (i/2^j.toNat)))else ψ
 |_,_=>ψ
theorem Ex:R2D K (gW (λ_ j=>0<=j) λi j=>.int (i/2^j.toNat)) yC:=by
 intro F H x y vx Z Q t U W Y O k;unfold yC at O;rcases O
 split at O
 .cases O;cases W;cases Y;exact⟨_,_,rfl,rfl,by assumption,k.int U⟩
 .cases O
def rV(O:Bool)(x y:Dt):ζ T:=(bQ y x).map λr=>.f (.bl (if O then !r.isSome else r.isSome))
theorem zV{O:Bool}(Z:dO K=θ):R2D K (BT O) (rV O):=by
 intro F H x y vx vy Q t W rx ry U k;have⟨r,hr,rfl⟩:=mS U;have⟨a,o,rfl,U,Y⟩:=ia Z W ry rx hr;refine⟨a,o,rfl,U,?_⟩
 have e:o.isSome=r.isSome:=by
  cases r with
  |none=>rw[Y.2 rfl];rfl
  |some d=>have⟨v,rfl,_⟩:=Y.1 d rfl;rfl
 rw[e];exact k.bl W
def oAdd:Op2:=⟨.inl .Add,orO eG ip,λK X k e _ _=>⟨_,by subst e;exact OpR.or oO yz,R2D.or zD Cr⟩⟩
def oSub:Op2:=⟨.inl .Sub,uc,λK X k e _ _=>⟨_,AN,Ea⟩⟩
def oMul:Op2:=⟨.inl .Mult,orO hJ (orO l8 ve),λK X k e _ _=>⟨_,by subst e;exact OpR.or AO (OpR.or yB yA),R2D.or Eb (R2D.or Cu Ct)⟩⟩
noncomputable def oDiv:Op2:=⟨.inl .FloorDiv,gm,λK X k e _ _=>⟨_,uF,B9⟩⟩
noncomputable def oMod:Op2:=⟨.inl .Mod,eI,λK X k e _ _=>⟨_,AQ,Ec⟩⟩
def oPow:Op2:=⟨.inl .Pow,xt,λK X k e _ _=>⟨_,AR,Ed⟩⟩
noncomputable def oBan:Op2:=⟨.inl .BitAnd,qQ qx9,λK X k e _ _=>⟨_,AT,nc⟩⟩
noncomputable def oBor:Op2:=⟨.inl .BitOr,qQ qj8.bitOr,λK X k e _ _=>⟨_,DT,nc⟩⟩
noncomputable def oXor:Op2:=⟨.inl .BitXor,qQ qj8.bitXor,λK X k e _ _=>⟨_,AU,nc⟩⟩
noncomputable def oShr:Op2:=⟨.inl .RShift,yC,λK X k e _ _=>⟨_,AS,Ex⟩⟩
def oEq:Op2:=⟨.inr .Eq,gEq ξ,λK X k e r _=>⟨_,by subst e;exact ud r,r_eq⟩⟩
def oNe:Op2:=⟨.inr .NotEq,gEq θ,λK X k e r _=>⟨_,by subst e;exact ni r,By⟩⟩
noncomputable def oLt:Op2:=⟨.inr .Lt,xu λi j=>decide (i<j),λK X k e r _=>⟨_,DW,zE⟩⟩
noncomputable def oGt:Op2:=⟨.inr .Gt,xu λi j=>decide (j<i),λK X k e r _=>⟨_,DX,zE⟩⟩
def oIs:Op2:=⟨.inr .Is,orO (gIs ξ) (qZ ξ),λK X k e r _=>⟨_,OpR.or AX B7,R2D.or r_is Eo⟩⟩
def vf:Op2:=⟨.inr .IsNot,orO (gIs θ) (qZ θ),λK X k e r _=>⟨_,OpR.or wO re,R2D.or xx uC⟩⟩
def oIn:Op2:=⟨.inr .In,orO (gIn ξ) (rV ξ),λK X k e r h=>⟨_,by subst e;exact OpR.or BB (BU (jh r)),R2D.or (r_in ξ) (zV h)⟩⟩
def oNi:Op2:=⟨.inr .NotIn,orO (gIn θ) (rV θ),λK X k e r h=>⟨_,by subst e;exact OpR.or qR (qU (jh r)),R2D.or (r_in θ) (zV h)⟩⟩
def bLen:Bf:=⟨"len",.inl "len",rfl,eJ,λK X k e _ _=>⟨_,by subst e;exact sM,Ee⟩⟩
noncomputable def bList:Bf:=⟨"list",.inr "list",rfl,ug,λK X k e _ _=>⟨_,by subst e;exact jY,BE⟩⟩
def bTup:Bf:=⟨"tuple",.inr "tuple",rfl,nl,λK X k e _ _=>⟨_,by subst e;exact iM,xy⟩⟩
def bInt:Bf:=⟨"int",.inr "int",rfl,BD,λK X k e _ _=>⟨_,qS,Ef⟩⟩
def bSrt:Bf:=⟨"sorted",.inl "sorted",rfl,gF,λK X k e _ _=>⟨_,by subst e;exact kx,uP⟩⟩
def mJoin:Ms:=⟨"join","str.join",PySem.F.slot_str_join,PySem.F.type_str_join,kl,λK X e=>⟨_,by subst e;exact xj,xz⟩⟩
noncomputable def Cv:Ia:=⟨.Add,λi j=>i+j,λX=>AG⟩
noncomputable abbrev kI(n:Int):E:=.k (.int n)
noncomputable abbrev kS(s:Str):E:=.k (.str s)
noncomputable abbrev A1(a:E):E:=.cons a .nil
abbrev A2(a b:E):E:=.cons a (A1 b)
abbrev A3(a b c:E):E:=.cons a (A2 b c)
abbrev A4(a b c d:E):E:=.cons a (A3 b c d)
abbrev A5(a b c d e:E):E:=.cons a (A4 b c d e)
def Cw(n:Bool):Dt->Dt->ζ T
 |.dcT ks l,.dcT O m=>if ks=O/\l.all aN=θ/\m.all aN=θ/\l.length=m.length then ς (.f (.bl (if n then !peqs l m else peqs l m)))else ψ
 |_,_=>ψ
variable{e:Dt}
section
variable{K:xA9}{F H:Hp}
theorem o7{d:Dt}{v w:V}(O:aN d=θ)(he:aN e=θ)(h:Rep K F d v)(h':Rep K F e w):aX v=θ/\aX w=θ/\eqV v w=peq d e:=by
 cases d<;>try(cases O;done)
 all_goals cases e<;>try(cases he;done)
 all_goals (rwa[Rep]at h h';subst h h';exact⟨rfl,rfl,rfl⟩)
theorem eS:∀{l:η Dt}{vs:η V},l.all aN=θ->Reps K F l vs->vs.all aX=θ
 |[],vs,_,h=>by cases (show vs=[]from h);rfl
 |d::l,vs,O,h=>by have⟨v,ws,rfl,h1,h2⟩:=h;rwa[qd4,qa1]at O ⊢;exact⟨(o7 O.1 O.1 h1 h1).1,eS O.2 h2⟩
theorem o8{m:η Dt}{us:η V}(hl:l.all aN=θ)(hm:m.all aN=θ)(U:l.length=m.length)(h:Reps K F l vs)(h':Reps K F m us):qI vs us=peqs l m:=by
 have n1:vs.length=l.length:=h.length;rw[aP];have e:(l.length==m.length)=θ:=‹U›
 rw[e,qn8,<- U,Nat.min_self];unfold qI;rw[n1]
 have O:∀i,i∈qc8 l.length->eqV (vs.getD i .non) (us.getD i .non)=aM l m i:=λi hi=>by have hi:=qd5.mp hi;have⟨v,g1,g2⟩:=h.get (i:=i) (d:=l[i]) (gQ hi);have⟨u,W,k2⟩:=h'.get (i:=i) (d:=m[i]) (gQ Θ);unfold aM;rw[qb0,qb0,qb0,qb0,g1,W,gQ hi,gQ Θ];exact(o7 (qc0.mp hl _ (ql7 hi)) (qc0.mp hm _ (ql7 Θ)) g2 k2).2.2
 rw[qo7,qc0,qc0];exact⟨λq i hi=>by rw[<- O i hi];exact q i hi,λq i hi=>by rw[O i hi];exact q i hi⟩
omit x in
theorem Ey{n:Bool}:R2D K (Bo n) (Cw n):=by
 intro F H x y vx vy Q t fh rx ry O k;cases x<;>try(cases O;done)
 all_goals cases y<;>try(cases O;done)
 rename_i ks l js m;rwa[Cw]at O;split at O
 .rename_i hc;have⟨rfl,Z,f2,hn⟩:=hc;cases O;have⟨a,J1,rfl,h1,h2,Y⟩:=rx;have⟨b,U,rfl,g1,g2,W⟩:=ry;refine⟨a,b,J1,U,rfl,rfl,h1,g1,by rw[h2,g2],eS Z Y,eS f2 W,?_⟩;rw[o8 Z f2 hn Y W];exact k.leaf.here fh rfl
 .cases O
end
def oNeT:Op2:=⟨.inr .NotEq,orO (gEq θ) (Cw θ),λK X k e r _=>⟨_,by subst e;exact OpR.or (ni r) (Bp r),R2D.or By Ey⟩⟩
variable{m:Nat}
section
variable{prog:qe3}{w:J5}{A:qk4}{s:qa7}
def Sm1(prog:qe3)(w:J5)(A:qk4)(s:qa7)(x y:Value):Prop:=∀(E:Value->qa7->Prop)(Q:Bool->qa7->Prop),Q θ s->wpAny (model prog w) A (eqBool x y) Q E s
theorem lpEq{p q:J4}{xs ys:Array Value}{n:Nat}{da db:ζ J4}{sa sb:Array (ζ Value)}{R:Result->qa7->Prop}(hn:xs.size=ys.size)
 (h1:s.heap.get? p=ς {cls:=.type "list",dict:=da,data:=.seq xs n,slots:=sa}) (h2:s.heap.get? q=ς {cls:=.type "list",dict:=db,data:=.seq ys m,slots:=sb})
 (he:∀j (g1:j<xs.size)(g2:j<ys.size),Sm1 prog w A.in1 s xs[j] ys[j]) (Z:R (.ok (.ret (.bool θ))) s):∀(k i:Nat),xs.size-i=k→
  wpAny (model prog w) A.in1 (qj8.«list.__eq__.loop» ⟨[.ref p,.ref q,qv3 i,qv3 2],[]⟩) (λf s'=>match f with|.done v=>R (.ok v) s'|.again c=>c.quiet=θ/\qu7 (model prog w) A c R s') (λe s'=>R (.error e) s') s:=by
 intro k;induction k with
 |zero=>
  intro i hk;have⟨hp,g,d,tk,os⟩:=s;wp_walk using PySem.AutoSeq1.wpAny_loadPart' h1,PySem.AutoSeq1.wpAny_loadPart' h2;have O:xs[((i:Nat):Int).toNat]?=ψ:=by simp;lia
  have U:ys[((i:Nat):Int).toNat]?=ψ:=by simp;lia
  rw[O,U];wp_walk using PySem.AutoSeq1.wpAny_loadPart' h1,PySem.AutoSeq1.wpAny_loadPart' h2;show R (.ok (.ret (.bool (xs.size==ys.size)))) _;rw[hn];simpa using Z
 |succ k ih=>
  intro i hk;have⟨hp,g,d,tk,os⟩:=s;wp_walk using PySem.AutoSeq1.wpAny_loadPart' h1,PySem.AutoSeq1.wpAny_loadPart' h2;have Y:i<xs.size:=by lia
  have W:i<ys.size:=by lia
  have O:xs[((i:Nat):Int).toNat]?=ς xs[i]:=by simp[Y]
  have U:ys[((i:Nat):Int).toNat]?=ς ys[i]:=by simp[W]
  have hc:((i:Int)+1)=((i+1:Nat):Int):=by push_cast;rfl
  rw[O,U];refine wB (he i Y W _ _ ?_);wp_walk;rw[hc]
  exact⟨qp9 qn9 _,qp1 za0 (by rw[qk5 qn9 _];exact ih (i+1) Θ)⟩
theorem lsEq {p q:J4} {xs ys:Array Value} {E Q:Value->qa7->Prop} (h1:s.heap.IsList p xs) (h2:s.heap.IsList q ys) (W:xs.size=ys.size) (hu:A.units<cLine)
  (he:∀j (g1:j<xs.size)(g2:j<ys.size),Sm1 prog w A.in1 s xs[j] ys[j]) (hQ:Q (.bool θ) s):wpAny (model prog w) A (richCompare .Eq (.ref p) (.ref q)) Q E s:=by
 have⟨⟨cl,da,dt,sa⟩,O,Y,n,d1⟩:=id h1;have⟨⟨cl',db,dt',sb⟩,U,Z,m,d2⟩:=id h2;simp only at Y d1 Z d2;subst Y d1 Z d2;refine qi2 (op:=.Eq) (T:="list") ⟨_,O,rfl⟩ ⟨_,U,rfl⟩ PySem.F.slot_list_eq (wpAny_call (codeAny_call_builtin PySem.F.slot_list_eq.plain PySem.F.entry_list_eq (PySem.F.slot_list_eq.check _ _ _ _ _ _ _ _ ⟨_,O,rfl⟩ (PySem.F.args_list_eq_2 _ _) ?_))) hu;have f3:=AutoSeq1.sub_list_list;have⟨hp,g,d,tk,os⟩:=s;have hne:¬ (xs.size != ys.size)=θ:=by simp[W]
 wp_walk using PySem.AutoSeq1.wpAny_loadPart' O,PySem.AutoSeq1.wpAny_loadPart' U
 exact⟨qp9 qn9 _,qp1 za0 (by rw[qk5 qn9 _];exact lpEq (R:=wants (λv s'=>v≠.notImplemented/\Q v s') E) W O U he ⟨(λx=>nomatch x),hQ⟩ _ 0 rfl)⟩
end
section
variable{X:Cx}{J0:η (J4×Obj)}{σ:St}{H:Hp}{s:qa7}{A:qk4}
theorem rdT {a b:J4} {J1 O:η (η Key×V)} {Q E:Value->qa7->Prop} (I:Inv X J0 σ H s) (hu:A.units+1<cLine) (h1:Rd H a (.dT J1)) (h2:Rd H b (.dT O)) (W:J1.map (·.1)=O.map (·.1)) (U:(J1.map (·.2)).all aX=θ) (Z:(O.map (·.2)).all aX=θ) (Y:Q (.bool (qI (J1.map (·.2)) (O.map (·.2)))) s) :
  wpAny (model X.prog X.w) A (richCompare .Eq (.ref a) (.ref b)) Q E s:=by
 have⟨_,y1,xs,r1,d1⟩:=bB I.hok h1;have⟨_,y2,ys,r2,d2⟩:=bB I.hok h2;refine qi2 (op:=.Eq) d1.typeIs d2.typeIs PySem.F.slot_dict_eq (qf5 PySem.F.slot_dict_eq d1.typeIs PySem.F.entry_dict_eq ?_ (PySem.F.args_dict_eq_2 _ _)) Θ;show wpAny _ _ (qe6 "__eq__" ⟨[.ref a,.ref b],[]⟩ >>= _) _ _ s;unfold qe6;refine wB (wB (qh7 d1.typeIs ?_));show wpAny _ _ (pure (qb6 a,qb6 b)) _ _ s;refine qa2 (wB (qq5 (T:="dict") d2.typeIs PySem.F.sub_dict_dict ?_));rwa[qs8,qe9,if_false];refine wB (qa2 (wB (qa2 (wB (tJ I (qi1 Θ) h1 h2 W U Z ?_)))));refine qa2 ⟨_,rfl,λx=>qt6 x,?_⟩;rw[show ∀c:Bool,(c==θ)=c by decide];exact Y
def rEqL(K:xA9):R2:=λx y H Q=>∃ks l m r O,Rep K H (.e (.dcT ks l::r)) x/\Rep K H (.e (.dcT ks m::O)) y/\l.all aN=θ/\m.all aN=θ/\l.length=m.length/\peqs l m=θ/\cmpbs r O=θ/\deeps r<=50/\peqs r O=θ/\Q (.bl θ) H
theorem Cy{k:Nat}(hr:Room k X.A)(hK:X.K=K):OpR X (qe2 .Eq) (rEqL K):=by
 subst hK;intro J0 s σ H x y v u Q I rx ry h;have⟨ks,l,m,r,Z,h1,h2,f1,f2,hlm,e1,hc,hd,e2,q⟩:=h;have hu:=hr.units;rwa[Rep]at h1 h2;have⟨a,vs,rfl,L1,P1⟩:=h1;have⟨b,ws,rfl,L2,P2⟩:=h2;cases (show v=qb6 a from rx);cases (show u=qb6 b from ry);have⟨J3,rv,pt,_⟩:=I.list L1;have⟨O,W,pu,_⟩:=I.list L2
 have hrr:r.length=Z.length:=by have:=aP r Z;rw[e2]at this;have:=this.symm;rw[qa1]at this;simpa using this.2
 have n1:J3.length=r.length+1:=by rw[<- rv.length,P1.length];rfl
 have n2:O.length=Z.length+1:=by rw[<- W.length,P2.length];rfl
 refine lsEq pt.isList pu.isList (by simp;lia) Θ (λj g1 g2=>?_) ⟨.bl θ,H,I,rfl,q⟩;have g1':j<J3.length:=‹g1›
 have g2':j<O.length:=‹g2›
 have⟨d,v,i1,i2,i3⟩:=aK P1 rv g1';have⟨e,w,k1,k2,k3⟩:=aK P2 W g2';cases j with
 |zero=>
  cases i1;cases k1;rwa[Rep]at i2 k2;have⟨c,J1,rfl,c1,c2,c3⟩:=i2;have⟨c',jvs,rfl,c1',c2',c3'⟩:=k2;have z1:J3.toArray[0]=.ref c:=by simpa[RelV] using i3
  have z2:O.toArray[0]=.ref c':=by simpa[RelV] using k3
  rw[z1,z2];intro E Q hq;by_cases hab:c=c'
  .subst hab;exact qw3 _ _ _ _ _ hq
  unfold eqBool;refine qj3 (wpAny_ite_split (λh=>absurd (by have:=eq_of_beq h;injection this) hab) (λ_=>?_));exact wB (rdT I (show X.A.units+1+1<cLine by lia) c1 c1' (by rw[c2,c2']) (eS f1 c3) (eS f2 c3') (by rw[o8 f1 f2 hlm c3 c3',e1];exact qp5 hq))
 |succ j=>
  have U:r[j]?=ς d:=i1;have k1':Z[j]?=ς e:=k1;have:=tY I (deeps r) (A:=X.A.in1) (bU U) (show X.A.units+1+deeps r<cLine by lia) (bA hc U k1') i2 k2 i3 k3
  have pe:peq d e=θ:=by have Y:=aP r Z;rw[e2]at Y;have Y:=Y.symm;rw[qa1]at Y;have:=qc0.mp Y.1 j (qd5.mpr Θ);unfold aM at this;rw[qb0,qb0,U,k1']at this;exact this
  rw[pe]at this;intro E Q hq;simpa using this X.prog X.w E Q hq
def yD:Dt->Dt->ζ T
 |.e (.dcT ks l::r),.e (.dcT U m::O)=>if ks=U/\(l.all aN=θ/\m.all aN=θ/\l.length=m.length/\peqs l m=θ)/\cmpbs r O=θ/\deeps r<=50/\peqs r O=θ then ς (.f (.bl θ))else ψ
 |_,_=>ψ
omit x in
theorem Ez:R2D K (rEqL K) yD:=by
 intro F H x y vx vy Q t U rx ry O k;unfold yD at O;rcases O
 rcases O
 rename_i hc;have⟨rfl,⟨Z,f2,W,f4⟩,Y,f6,f7⟩:=hc;cases O;exact⟨_,_,_,_,_,rx.rep U,ry.rep U,Z,f2,W,f4,Y,f6,f7,k.leaf.here U rfl⟩
end
section
variable{X:Cx}
def rNeE:R2:=λx y H Q=>∃a b J1,x=.ref a/\y=.ref b/\Rd H a (.dK J1)/\Rd H b (.dK [])/\Q (.bl (!J1.isEmpty)) H
theorem Cz{k:Nat}(hr:Room k X.A):OpR X (qe2 .NotEq) rNeE:=by
 intro J0 s σ H x y v u Q I rx ry h;have⟨a,b,J1,rfl,rfl,h1,h2,q⟩:=h;cases (show v=qb6 a from rx);cases (show u=qb6 b from ry);have un:=hr.un;have⟨_,y1,xs,r1,oa,es,ep,O,p2,U,p4⟩:=h1.ok I.hok;have⟨_,Z,ys,r2,ob,fs,fp,W,q2,Y,q4⟩:=h2.ok I.hok;have t1:s.TypeIs (.ref a) "dict":=⟨oa,O,p2.1⟩;have t2:s.TypeIs (.ref b) "dict":=⟨ob,W,q2.1⟩;have n1:es.size=J1.length:=by have:=r1.length;rw[<- qh5,p4.2.1.length];lia
 have n2:fs.size=0:=by have:=r2.length;rw[<- qh5,q4.2.1.length];simpa using this.symm
 refine qi2 (op:=.NotEq) t1 t2 PySem.F.slot_dict_ne (qf5 PySem.F.slot_dict_ne t1 PySem.F.entry_dict_ne ?_ (PySem.F.args_dict_ne_2 _ _)) Θ;show wpAny _ _ (qe6 "__ne__" ⟨[.ref a,.ref b],[]⟩ >>= _) _ _ s;unfold qe6;refine wB (wB (qh7 t1 ?_));show wpAny _ _ (pure (qb6 a,qb6 b)) _ _ s;refine qa2 (wB (qq5 (T:="dict") t2 PySem.F.sub_dict_dict ?_));rwa[qs8,qe9,if_false];refine wB (qa2 (wB (qa2 (wB ?_))))
 have fin:∀c:Bool,c=J1.isEmpty->wpAny (model X.prog X.w) X.A.in1 (ret (qr5 (c==ξ))) (λf s'=>∃v,f=Fin.done (Flow.ret v)/\v≠Value.notImplemented/\EP X J0 σ Q v s') X.xe s:=λc e=>qa2 ⟨_,rfl,λx=>qt6 x,by rw[show ∀c:Bool,(c==ξ)=!c by decide,e];exact⟨_,H,I,show RelV (.bl _) _ from rfl,q⟩⟩
 unfold qo3 qo8;rw[if_neg (by rw[y1];decide),if_neg (by rw[Z];decide)];refine wB (qa2 (wB (qa2 (wB (qg6 O U ?_)))));dsimp only;refine wB (qg6 W Y ?_);cases J1 with
 |cons p J1=>rw[if_pos (by rw[n1,n2];simp)];refine wB (zf0 (qa2 ?_));exact fin ξ rfl
 |nil=>rw[if_neg (by rw[n1,n2];simp)];refine wB (qo9 O U (wB ?_));rw[qp8];rwa[zc4,qx4,qs7,Nat.div_one];rw[n1];refine qa2 (qa2 ?_);exact fin θ rfl
def CA:Dt->Dt->ζ T
 |.dct ks l,.dct [] []=>if ks.length=l.length then ς (.f (.bl (!ks.isEmpty)))else ψ
 |_,_=>ψ
theorem EA:R2D K rNeE CA:=by
 intro F H x y vx vy Q t W Y Z O k;unfold CA at O;rcases O
 rcases O
 cases O;have⟨a,J1,rfl,h1,h2,h3⟩:=Y;have⟨b,U,rfl,g1,g2,g3⟩:=Z;cases U with
 |cons _ _=>cases g2
 |nil=>
  refine⟨a,b,J1,rfl,rfl,h1,g1,?_⟩;have e:(J1.map (·.1)).isEmpty=J1.isEmpty:=by cases J1<;>rfl
  rw[<- h2,e]at k;exact k.leaf.here W rfl
end
def oEqL:Op2:=⟨.inr .Eq,orO (gEq ξ) yD,λK X k e r _=>⟨_,by subst e;exact OpR.or (ud r) (Cy r rfl),R2D.or r_eq Ez⟩⟩
def oNeE:Op2:=⟨.inr .NotEq,orO (gEq θ) CA,λK X k e r _=>⟨_,by subst e;exact OpR.or (ni r) (Cz r),R2D.or By EA⟩⟩
noncomputable abbrev vN0:E:=.v 0
noncomputable abbrev vN1:E:=.v 1
noncomputable abbrev vN2:E:=.v 2
noncomputable abbrev vN3:E:=.v 3
noncomputable abbrev vN4:E:=.v 4
noncomputable abbrev vN5:E:=.v 5
noncomputable abbrev vN6:E:=.v 6
noncomputable abbrev vN7:E:=.v 7
noncomputable abbrev vN8:E:=.v 8
noncomputable abbrev vN9:E:=.v 9
noncomputable abbrev vN10:E:=.v 10
noncomputable abbrev vN11:E:=.v 11
noncomputable abbrev nJ:E:=.v 12
noncomputable abbrev CB:E:=.v 13
noncomputable abbrev rW:E:=.v 14
noncomputable def sL:η S->S
 |[]=>.nil
 |a::l=>.sq a (sL l)
instance{n:Nat}[OfNat Int n]:OfNat E n:=⟨.k (.int (OfNat.ofNat n))⟩
instance:Add E:=⟨.b2 oAdd .v⟩
instance:Sub E:=⟨.b2 oSub .v⟩
instance:Mul E:=⟨.b2 oMul .v⟩
instance:_root_.Mod E:=⟨.b2 oMod .v⟩
instance:SDiff E:=⟨.b2 oDiv .v⟩
instance:Div E:=⟨.ix⟩
theorem xLit{n:Nat}[OfNat Int n]:(OfNat.ofNat n:E)=.k (.int (OfNat.ofNat n)):=rfl
section
variable{a b:E}
theorem xAdd:a+b=.b2 oAdd .v a b:=rfl
theorem xSub:a-b=.b2 oSub .v a b:=rfl
theorem xMul:a*b=.b2 oMul .v a b:=rfl
theorem xMod:a%b=.b2 oMod .v a b:=rfl
theorem xDiv:a \ b=.b2 oDiv .v a b:=rfl
theorem xIx:a/b=.ix a b:=rfl
abbrev tsE(a b:E):E:=.tr (.b2 oEq .v a b)
noncomputable abbrev tsL(a b:E):E:=.tr (.b2 oLt .v a b)
abbrev tsN(a b:E):E:=.tr (.b2 oNe .v a b)
noncomputable abbrev tsG(a b:E):E:=.tr (.b2 oGt .v a b)
abbrev eLn(a:E):E:=.bn bLen .v (A1 a)
abbrev rG1(a:E):E:=.rg (A1 a)
noncomputable abbrev aT0(c f:Nat):E:=.at c f (.v 0)
noncomputable abbrev mE0(j:Nat)(a:E):E:=.me j (.v 0) a
noncomputable abbrev cO0(l:η (ζ Nat))(a b:E):E:=.co .v l (.one 0) a .ys b
noncomputable abbrev cR0(a b:E):S:=.cd a (.sq (.rt b) .nil) .nil
end
noncomputable def sLb:η S->S->S
 |[],s=>s
 |a::l,s=>.sq a (sLb l s)
noncomputable def gc:η (Str×Dt):=[("WIDE",.int 1099511627776)]
noncomputable def L:Lw:=⟨["dict","enumerate","int","isinstance","len","list","range","sorted","str","tuple"],[("Hand",["first","unlike"]),("Lost",["place","done","hears","says","boxes","dust","log"]),("Store",["home","heads","page_boxes","page_turns","counting","result"]),("House",["rows","onward","sizes","twins","keeps","incoming","store","hand","dust","lost","plan"])],["str"]⟩
noncomputable def t0:η Df:=[]
def d0:Df:=⟨.fn,"_law_names",6,2,sL [.set 2 (kS "abcdefghijklmnopqrstuvwxyz"),.set 3 (vN0%6),.set 4 (vN0 \ 6%(vN3+1)),.set 5 (.ms mJoin .v (kS "") (A1 (cO0 [ψ,ς 0,ς 2] (rG1 vN3) (vN2/((vN1 \ 37+11*vN0*(vN1%2))%26))))),.rt (cO0 [ψ,ς 4,ς 0,ς 5,ς 2] (rG1 vN1) (.sl .v vN3 .no (.cons vN1 .nil)+vN4/((vN2 \ 42+5*vN0)%26)+.sl .v vN3 (.cons vN1 .nil) .no))]⟩
def t1:=d0::t0
def d1:Df:=⟨.fn,"_law_cell_at",2,2,sL [cR0 (tsL vN1 (eLn vN0)) (vN0/vN1),.rt 0]⟩
def t2:=d1::t1
def d2:Df:=⟨.fn,"_law_stream",5,2,sL [.set 2 (.ls .w .nil),.set 3 (vN0%2147483629+69621),.fo (.one 4) (rG1 (vN1+1)) (sL [.set 3 ((vN3*vN3+16807*vN3+vN4)%2147483629),.aps 2 vN3]),.rt (.sl .v vN2 (.cons 1 .nil) .no)]⟩
def t3:=d2::t2
def d3:Df:=⟨.fn,"_law_value_by",1,1,sL [cR0 (tsE (vN0%3) 0) (vN0 \ 3%4),cR0 (tsE (vN0%3) 1) (.b2 oPow .v 2 40-1-vN0 \ 3%4),.rt (vN0 \ 3*1664525%.b2 oPow .v 2 40)]⟩
def t4:=d3::t3
def d4:Df:=⟨.fn,"_law_world",6,1,sL [.set 1 (.ca 3 (A2 (.ca 2 (A2 vN0 0)) 12)),.set 2 (.ca 1 (A2 (.ca 2 (A2 vN0 1)) 12)),.set 3 (cO0 [ψ,ς 1,ς 2] (rG1 (1+vN2/6%3)) (.tu (A3 (vN1/vN0) (.ca 0 (A1 (vN2/vN0))) (.b2 oEq .v ((vN2/vN0) \ 5%2) 0)))),.set 4 (cO0 [ψ,ς 1,ς 2] (rG1 (1+vN2/7%2)) (.tu (A3 (vN1/(4+vN0)) (1+vN2/(4+vN0)%8) (.b2 oEq .v ((vN2/(4+vN0)) \ 8%2) 0)))),.set 5 (cO0 [ψ] (.it (.ca 1 (A2 (.ca 2 (A2 vN0 2)) (vN2/8%7)))) (.ca 0 (A1 vN0))),.rt (.tu (A4 (.sl .v vN1 (.cons 6 .nil) (.cons 10 .nil)) vN3 vN4 vN5))]⟩
def t5:=d4::t4
def d5:Df:=⟨.fn,"_law_atom",2,2,sL [cR0 (tsE (vN0%3) 0) (.ca 1 (A1 (vN0 \ 3))),.rt (vN1/(vN0 \ 3%eLn vN1))]⟩
def t6:=d5::t5
def d6:Df:=⟨.fn,"_law_led",3,3,sL [cR0 (tsE (vN0/4%6) 0) (vN0/5%vN2),.rt (vN1+1+vN0/5%(vN2-1-vN1))]⟩
def t7:=d6::t6
def d7:Df:=⟨.fn,"_law_row",15,4,sL [.un (.many [4,5,6,7]) vN3,.set 8 (.ca 4 (A2 vN0 8)),.set 9 (vN4/(vN8/1%eLn vN4)),.set 10 (vN5/(vN8/6%eLn vN5)/0),.set 11 (vN6/(vN8/6%eLn vN6)/0),.set 12 (.ca 1 (A2 (vN8/2) vN4)),.set 13 (.ca 1 (A2 (vN8/3) vN4)),.set 14 (vN8/0%23),cR0 (tsL rW 5) (.tu (A5 (kS "op") vN9 (kS "+-*<=&|^"/(vN8/7%8)) nJ CB)),cR0 (tsL rW 17) (.ls .v (A4 (.tu (A3 (kS "load") vN9 vN10)) (.tu (A3 (kS "store") vN10 nJ)) (.tu (A4 (kS "take") vN9 vN11 nJ)) (.tu (A4 (kS "lay") vN11 nJ CB)))/(rW%4)),cR0 (tsL rW 20) (.ls .v (A3 (.tu (A3 (kS "copy") vN9 nJ)) (.tu (A2 (kS "hear") vN9)) (.tu (A2 (kS "say") nJ)))/(rW%3)),cR0 (tsL rW 22) (.tu (A3 (kS "if") vN9 (.ca 0 (A3 vN8 vN1 vN2)))),.rt (.ls .v (A3 (.tu (A2 (kS "end") nJ)) (.tu (A2 (kS "say") CB)) (.tu (A2 (kS "go") (.ca 0 (A3 vN8 vN1 vN2)))))/((vN8/5) \ 64%3))]⟩
def t8:=d7::t7
def d8:Df:=⟨.fn,"_law_program",4,3,sL [.set 3 (cO0 [ψ,ς 0,ς 1] (rG1 (eLn vN0)) (.ca 0 (A4 (vN1/vN0) vN0 (eLn vN1+1) vN2))),.rt (.tu (A3 (.bn bTup .v (A1 (vN1/1))) (.bn bTup .v (A1 (vN1/2))) (.bn bTup .v (A1 vN3)+.tu (A1 (.tu (A2 (kS "end") vN2))))))]⟩
def t9:=d8::t8
def d9:Df:=⟨.fn,"ways_of",2,2,sL [cR0 (tsE (vN1/0) (kS "go")) (.tu (A1 (vN1/1))),cR0 (tsE (vN1/0) (kS "if")) (.tu (A2 (vN1/2) (vN0+1))),cR0 (tsE (vN1/0) (kS "end")) (.tu .nil),.rt (.tu (A1 (vN0+1)))]⟩
def t10:=d9::t9
def d10:Df:=⟨.fn,"ways",1,1,sL [.rt (.co .v [ψ,ψ] (.many [0,1]) (.en (vN0/2)) .ys (.ca 0 (A2 vN0 vN1)))]⟩
def t11:=d10::t10
def d11:Df:=⟨.mk 2,"__init__",3,3,sL [.fl 2 0 vN0 (.dc .o (cO0 [ψ] (.it (vN1/0)) (.tu (.cons (vN0/0) (.cons (.ls .o (.cons (vN0/1) .nil)) .nil))))),.up (aT0 2 0) (.dc .o (cO0 [ψ] (.it (vN1/1)) (.tu (.cons (vN0/0) (.cons (.b2 oMul .o (.ls .v (A1 0)) (vN0/1)) .nil))))),.fl 2 1 vN0 (.ls .o (A2 (.tu (A4 0 0 0 0)) (.tu (A4 0 0 0 0)))),.fl 2 2 vN0 (.ls .o (.cons (.co .o [ψ] (.one 0) (.it vN2) .ys (.tu (.cons vN0 (.cons 0 .nil)))) (.cons (.ls .o .nil) .nil))),.fl 2 3 vN0 (.ls .o (.cons (.ls .o .nil) (.cons (.ls .o .nil) .nil))),.fl 2 4 vN0 0,.fl 2 5 vN0 (.k .non)]⟩
def t12:=d11::t11
def d12:Df:=⟨.mk 0,"__init__",1,1,sL [.fl 0 0 vN0 (.dn .o ξ),.fl 0 1 vN0 (.k (.bl ξ))]⟩
def t13:=d12::t12
def d13:Df:=⟨.fn,"named",2,2,sL [.rt (.co .v [ψ,ψ,ς 0] (.many [0,1]) (.it vN1) .ys (.tu (A4 vN2 (vN0/0) (vN0/1) vN1)))]⟩
def t14:=d13::t13
def d14:Df:=⟨.fn,"coming_up",1,1,sL [.rt (.b2 oAdd .o (.ca 0 (A2 (kS "put") (vN0/5))) (.ls .v (A1 (.tu (A1 (kS "wake"))))))]⟩
def t15:=d14::t14
def d15:Df:=⟨.me 2,"page",2,2,sL [.rt (aT0 2 1/vN1+.tu (A2 (.bn bList .v (A1 (aT0 2 2/vN1))) (.bn bList .v (A1 (aT0 2 3/vN1)))))]⟩
def t16:=d15::t15
def d16:Df:=⟨.me 3,"page",2,2,sL [.rt (.me 0 (aT0 3 6) (A1 vN1))]⟩
def t17:=d16::t16
def d17:Df:=⟨.me 2,"face",1,1,sL [.rt (aT0 2 4)]⟩
def t18:=d17::t17
def d18:Df:=⟨.me 3,"face",1,1,sL [.rt (.me 0 (aT0 3 6) .nil)]⟩
def t19:=d18::t18
def d19:Df:=⟨.mk 3,"__init__",4,4,sL [.fl 3 0 vN0 (vN1/2),.fl 3 1 vN0 (.ca 8 (A1 vN1)),.fl 3 2 vN0 (.dc .v (cO0 [ψ] (.it (vN1/1)) (.tu (A2 (vN0/0) (vN0/1))))),.fl 3 3 vN0 (.co .v [ψ] (.one 0) (.it (vN1/0+vN1/1)) (.tr (vN0/2)) (vN0/0)),.fl 3 4 vN0 (.dc .v (vN2/1)),.fl 3 5 vN0 (.bn bList .v (A1 vN3)),.fl 3 6 vN0 (.mk 7 (A2 vN1 (vN2/0))),.fl 3 7 vN0 (.mk 6 .nil),.fl 3 8 vN0 0,.fl 3 9 vN0 (.k .non),.fl 3 10 vN0 (.ca 4 (A1 (mE0 2 (A1 (mE0 0 .nil)))))]⟩
def t20:=d19::t19
def d20:Df:=⟨.fn,"_law_some",2,2,sL [.rt (.bn bTup .v (A1 (.bn bSrt .v (A1 (.co .v [ψ,ς 1,ς 0] (.one 0) (rG1 (eLn vN1)) (tsE (.b2 oBan .v (.b2 oShr .v vN2 vN0) 1) 1) (vN1/vN0))))))]⟩
def t21:=d20::t20
def d21:Df:=⟨.fn,"_law_cutting",8,3,sL [.set 3 (vN0/2),.set 4 (.ca 18 (A2 vN1 (eLn vN3+2))),.set 5 (.ls .v (A3 2 3 5)/(vN4/0%3)),.set 6 (.ls .w .nil),.fo (.one 7) (rG1 (eLn vN3)) (sL [.cd (.to (tsE (vN3/vN7/0) (kS "end")) (tsE (vN4/(vN7+1)%vN5) 0)) (sL [.aps 6 (.tu (A2 vN7 (.ca 0 (A2 ((vN4/(vN7+1)) \ 30) vN2))))]) .nil]),.rt (.tu (A2 (.ca 0 (A2 (vN4/.ng 1) vN2)) (.bn bTup .v (A1 vN6))))]⟩
def t22:=d21::t21
def d22:Df:=⟨.me 2,"answer",1,1,sL [.rt (aT0 2 5)]⟩
def t23:=d22::t22
def d23:Df:=⟨.me 3,"answer",1,1,sL [.rt (.me 0 (aT0 3 6) .nil)]⟩
def t24:=d23::t23
def d24:Df:=⟨.me 3,"rests",1,1,sL [.rt (.b2 vf .v (mE0 0 .nil) (.k .non))]⟩
def t25:=d24::t24
def d25:Df:=⟨.me 3,"stands",1,1,sL [.rt (.cd (.to (.tr (mE0 0 .nil)) (tsG (eLn (aT0 3 10)) 0)) (.k .non) (.at 1 0 (aT0 3 9)))]⟩
def t26:=d25::t25
def d26:Df:=⟨.fn,"_law_set",1,1,sL [cR0 (.tr (.b2 oIn .v (vN0/0) (.tu (A5 (kS "copy") (kS "op") (kS "load") (kS "take") (kS "hear"))))) (vN0/1),.rt (kS "")]⟩
def t27:=d26::t26
def d27:Df:=⟨.me 1,"worth",2,2,sL [.rt (.cd (.tr (.ii "str" vN1)) (.gt (aT0 1 4) vN1 (aT0 1 5)) vN1)]⟩
def t28:=d27::t27
def d28:Df:=⟨.me 3,"box",2,2,sL [.rt (.cd (.tr (.b2 oIs .v (mE0 2 .nil) (.k .non))) 0 (.me 0 (aT0 3 9) (A1 vN1)))]⟩
def t29:=d28::t28
def d29:Df:=⟨.mk 1,"__init__",3,3,sL [.fl 1 0 vN0 (vN1/0),.fl 1 1 vN0 (vN1/1),.fl 1 2 vN0 (vN1/2),.fl 1 3 vN0 (vN1/3),.fl 1 4 vN0 (.dc .o (vN1/4)),.fl 1 5 vN0 vN2,.fl 1 6 vN0 (.dn .o θ)]⟩
def t30:=d29::t29
def d30:Df:=⟨.me 2,"put",4,4,sL [.put (aT0 2 0/vN1) vN2 vN3]⟩
def t31:=d30::t30
def d31:Df:=⟨.me 2,"other",1,1,sL [.rt (1-aT0 2 4)]⟩
def t32:=d31::t31
def d32:Df:=⟨.me 2,"begin_page",5,5,sL [.put (aT0 2 1) (mE0 0 .nil) (.tu (A4 vN1 vN2 vN3 vN4)),.put (aT0 2 2) (mE0 0 .nil) (.ls .o .nil),.put (aT0 2 3) (mE0 0 .nil) (.ls .o .nil)]⟩
def t33:=d32::t32
def d33:Df:=⟨.me 2,"keep_box",3,3,sL [.ap (aT0 2 2/mE0 1 .nil) (.tu (A2 vN1 vN2))]⟩
def t34:=d33::t33
def d34:Df:=⟨.me 2,"keep_turn",4,4,sL [.ap (aT0 2 3/mE0 2 .nil) (.tu (A2 (.tu (A2 vN1 vN2)) vN3))]⟩
def t35:=d34::t34
def d35:Df:=⟨.me 2,"turn",1,1,sL [.fl 2 4 vN0 (mE0 3 .nil)]⟩
def t36:=d35::t35
def d36:Df:=⟨.fn,"do_small",2,2,sL [.cd (tsE (vN1/0) (kS "put")) (sL [.dr (mE0 5 (A3 (vN1/1) (vN1/2) (vN1/3)))]) (sL [.cd (tsE (vN1/0) (kS "begin")) (sL [.dr (mE0 3 (A4 (vN1/1) (vN1/2) (vN1/3) (vN1/4)))]) (sL [.cd (tsE (vN1/0) (kS "box")) (sL [.dr (mE0 2 (A2 (vN1/1) (vN1/2)))]) (sL [.cd (tsE (vN1/0) (kS "log")) (sL [.dr (mE0 1 (A3 (vN1/1) (vN1/2) (vN1/3)))]) (sL [.cd (tsE (vN1/0) (kS "turn")) (sL [.dr (mE0 0 .nil)]) .nil])])])])]⟩
def t37:=d36::t36
def d37:Df:=⟨.me 3,"small_step",2,1,sL [.set 1 (.pp (aT0 3 10) 0),.cd (tsE (vN1/0) (kS "wake")) (sL [.fl 3 9 vN0 (.mk 7 (A2 (mE0 20 (A1 (mE0 18 .nil))) (aT0 3 8)))]) (sL [.dr (.ca 0 (A2 (aT0 3 6) vN1))]),.cd (tsE (eLn (aT0 3 10)) 0) (sL [.cl θ (.at 1 6 (aT0 3 9))]) .nil]⟩
def t38:=d37::t37
def d38:Df:=⟨.me 2,"give",2,2,sL [.fl 2 5 vN0 vN1]⟩
def t39:=d38::t38
def d39:Df:=⟨.me 3,"write_at",4,4,sL [.cd (.tr (.b2 oIn .v vN1 (aT0 3 3))) (sL [.put (.at 1 6 (aT0 3 9)) (.tu (A2 vN1 vN2)) vN3]) (sL [.dr (.me 8 (aT0 3 6) (A3 vN1 vN2 vN3))])]⟩
def t40:=d39::t39
def d40:Df:=⟨.me 3,"place_on",3,3,sL [.rt (.me 12 (aT0 3 9) (A1 vN2)%(aT0 3 2/vN1))]⟩
def t41:=d40::t40
def d41:Df:=⟨.me 0,"take",3,3,sL [.cd (.tr (.b2 oNi .v vN1 (aT0 0 0))) (sL [.put (aT0 0 0) vN1 vN2]) (sL [.cd (tsN (aT0 0 0/vN1) vN2) (sL [.fl 0 1 vN0 (.k (.bl θ))]) .nil])]⟩
def t42:=d41::t41
def d42:Df:=⟨.fn,"number_of",3,3,sL [cR0 (tsE vN0 (kS "+")) (vN1+vN2),cR0 (tsE vN0 (kS "-")) (vN1-vN2),cR0 (tsE vN0 (kS "*")) (vN1*vN2),cR0 (tsE vN0 (kS "<")) (.cd (tsL vN1 vN2) 1 0),cR0 (tsE vN0 (kS "=")) (.cd (tsE vN1 vN2) 1 0),cR0 (tsE vN0 (kS "&")) (.b2 oBan .v vN1 vN2),cR0 (tsE vN0 (kS "|")) (.b2 oBor .v vN1 vN2),.rt (.b2 oXor .v vN1 vN2)]⟩
def t43:=d42::t42
def d43:Df:=⟨.fn,"value",3,3,sL [.rt (.ca 0 (A3 vN0 vN1 vN2)%.g 0)]⟩
def t44:=d43::t43
def d44:Df:=⟨.me 2,"get_home",3,3,sL [.rt (aT0 2 0/vN1/vN2)]⟩
def t45:=d44::t44
def d45:Df:=⟨.me 3,"value_at",3,3,sL [cR0 (.tr (.b2 oIn .v (.tu (A2 vN1 vN2)) (.at 1 6 (aT0 3 9)))) (.at 1 6 (aT0 3 9)/.tu (A2 vN1 vN2)),.rt (.me 0 (aT0 3 6) (A2 vN1 vN2))]⟩
def t46:=d45::t45
def d46:Df:=⟨.me 3,"next_letter",3,1,sL [.set 1 (aT0 3 9),.set 2 (.at 1 2 vN1),.fa 1 2 Cv vN1 1,.rt (.cd (tsL vN2 (eLn (aT0 3 5))) (aT0 3 5/vN2) 0)]⟩
def t47:=d46::t46
def d47:Df:=⟨.me 3,"set_by",3,2,sL [.set 2 (aT0 3 9),cR0 (tsE (vN1/0) (kS "copy")) (.me 19 vN2 (A1 (vN1/2))),cR0 (tsE (vN1/0) (kS "op")) (.ca 3 (A3 (vN1/2) (.me 19 vN2 (A1 (vN1/3))) (.me 19 vN2 (A1 (vN1/4))))),cR0 (tsE (vN1/0) (kS "load")) (mE0 1 (A2 (vN1/2) 0)),cR0 (tsE (vN1/0) (kS "take")) (mE0 1 (A2 (vN1/2) (mE0 6 (A2 (vN1/2) (vN1/3))))),.rt (mE0 0 .nil)]⟩
def t48:=d47::t47
def d48:Df:=⟨.me 3,"do_row",3,2,sL [.set 2 (aT0 3 9),.cd (tsE (vN1/0) (kS "store")) (sL [.dr (mE0 8 (A3 (vN1/1) 0 (.me 20 vN2 (A1 (vN1/2)))))]) (sL [.cd (tsE (vN1/0) (kS "lay")) (sL [.dr (mE0 8 (A3 (vN1/1) (mE0 7 (A2 (vN1/1) (vN1/2))) (.me 20 vN2 (A1 (vN1/3)))))]) (sL [.cd (tsE (vN1/0) (kS "say")) (sL [.dr (.me 6 (aT0 3 7) (A2 (.at 1 3 vN2) (.me 20 vN2 (A1 (vN1/1))))),.fa 1 3 Cv vN2 1]) (sL [.cd (.ta (tsN (vN1/0) (kS "if")) (tsN (vN1/0) (kS "go"))) (sL [.put (.at 1 4 vN2) (vN1/1) (mE0 0 (A1 vN1))]) .nil])])])]⟩
def t49:=d48::t48
def d49:Df:=⟨.me 3,"place_behind",4,2,sL [.set 2 (aT0 3 9),.set 3 (aT0 3 1/.at 1 0 vN2),cR0 (.ta (tsE (vN1/0) (kS "if")) (tsE (.me 21 vN2 (A1 (vN1/1))) 0)) (vN3/1),.rt (vN3/0)]⟩
def t50:=d49::t49
def d50:Df:=⟨.fn,"writing_down",5,2,sL [.set 2 (.ls .v (A1 (.tu (A5 (kS "begin") (aT0 1 0) (aT0 1 1) (aT0 1 2) (aT0 1 3))))),.set 3 (cO0 [ψ,ς 0] (.it vN1) (.tu (A3 (kS "box") vN0 (.me 22 vN1 (A1 vN0))))),.set 4 (.il .v (aT0 1 6)),.rt (.b2 oAdd .o (vN2+vN3+.ca 36 (A2 (kS "log") vN4)+.ls .v (A1 (.tu (A1 (kS "turn"))))) (.ca 36 (A2 (kS "put") vN4)))]⟩
def t51:=d50::t50
def d51:Df:=⟨.me 3,"row_step",3,1,sL [.set 1 (aT0 3 9),.set 2 (aT0 3 0/.at 1 0 vN1),.fa 1 1 Cv vN1 1,.cd (tsE (vN2/0) (kS "end")) (sL [.dr (.me 12 (aT0 3 6) (A1 (.me 23 vN1 (A1 (vN2/1))))),.rn]) .nil,.dr (mE0 2 (A1 vN2)),.fl 1 0 vN1 (mE0 1 (A1 vN2)),.cd (.tr (.b2 oIn .v (.at 1 0 vN1) (aT0 3 4))) (sL [.fl 3 10 vN0 (.ca 0 (A2 vN1 (aT0 3 4/.at 1 0 vN1)))]) .nil]⟩
def t52:=d51::t51
def d52:Df:=⟨.me 3,"step",1,1,sL [.cd (.tr (mE0 27 .nil)) (sL [.rn]) .nil,.cd (tsG (eLn (aT0 3 10)) 0) (sL [.dr (mE0 14 .nil)]) (sL [.dr (mE0 0 .nil)])]⟩
def t53:=d52::t52
def d53:Df:=⟨.fn,"_law_written",8,5,sL [.set 5 (mE0 36 (A1 (mE0 34 .nil))),.fo (.many [6,7]) (.it (vN5/4)) (sL [cR0 (.ta (tsN vN6 vN3) (tsN vN7 (vN2/vN6))) (.k (.bl ξ))]),.rt (.b2 oEq .v (.bn bList .v (A1 (.sl .v vN5 (.cons 1 .nil) (.cons 4 .nil)))) vN4)]⟩
def t54:=d53::t53
def d54:Df:=⟨.fn,"_law_walked",10,4,sL [.set 4 (.dn .w ξ),.set 5 (kS ""),.set 6 (.bn bList .v (A1 (.sl .v (mE0 37 (A1 (mE0 35 .nil))) (.cons 1 .nil) (.cons 4 .nil)))),.fo (.one 7) (rG1 vN3) (sL [.set 8 (mE0 28 .nil),.cd (.tr (.b2 vf .v vN8 (.k .non))) (sL [.set 5 (.ca 27 (A1 (vN1/2/vN8))),.fo (.one 9) (.it vN2) (sL [.pts 4 vN9 (mE0 25 (A1 vN9))]),.set 6 (.ls .v (A3 (vN6/0+1) (vN6/1+.bn bInt .v (A1 (.b2 oEq .v (vN1/2/vN8/0) (kS "hear")))) (vN6/2+.bn bInt .v (A1 (.b2 oEq .v (vN1/2/vN8/0) (kS "say"))))))]) .nil,.dr (mE0 1 .nil),.cd (.ta (.tr (.b2 oIs .v vN8 (.k .non))) (.ta (.tr (.b2 vf .v (mE0 28 .nil) (.k .non))) (.tr (.b2 oNeE .v vN4 (.dn .v ξ))))) (sL [cR0 (.tn (.tr (.ca 0 (A5 vN0 vN2 vN4 vN5 vN6)))) (.k (.bl ξ))]) .nil]),.rt (.k (.bl θ))]⟩
def t55:=d54::t54
def d55:Df:=⟨.me 2,"cell",2,2,sL [.rt (aT0 2 0/vN1/0)]⟩
def t56:=d55::t55
def d56:Df:=⟨.me 3,"cell",2,2,sL [.rt (.me 0 (aT0 3 6) (A1 vN1))]⟩
def t57:=d56::t56
def d57:Df:=⟨.me 2,"shelf",2,2,sL [.rt (.bn bList .v (A1 (aT0 2 0/vN1)))]⟩
def t58:=d57::t57
def d58:Df:=⟨.me 3,"shelf",2,2,sL [.rt (.me 0 (aT0 3 6) (A1 vN1))]⟩
def t59:=d58::t58
def d59:Df:=⟨.fn,"_law_home",9,2,sLb [.set 2 (.dn .w θ),.fo (.many [3,4,5]) (.it (vN1/0)) (sL [.pts 2 (.tu (A2 vN3 0)) (mE0 2 (A1 vN3))]),.fo (.many [3,6,5]) (.it (vN1/1)) (sL [.set 7 (mE0 0 (A1 vN3)),.fo (.one 8) (rG1 vN6) (sL [.pts 2 (.tu (A2 vN3 vN8)) (vN7/vN8)])])] (.fz 2 (sL [.rt vN2]))⟩
def t60:=d59::t59
def d60:Df:=⟨.me 0,"kept",2,1,sLb [.set 1 (.ls .w .nil),.wh 1100 (.tr (.b2 oIn .v (eLn vN1) (aT0 0 0))) (sL [.aps 1 (aT0 0 0/eLn vN1)])] (.fz 1 (sL [.rt vN1]))⟩
def t61:=d60::t60
def d61:Df:=⟨.me 3,"letters",1,1,sL [.rt (.me 0 (aT0 3 7) .nil)]⟩
def t62:=d61::t61
def d62:Df:=⟨.fn,"_law_stays",2,2,sL [.rt (.ls .v (.cons (.ca 2 (A2 vN0 vN1)) (A5 (mE0 38 .nil) (mE0 45 (A1 0)) (mE0 45 (A1 1)) (mE0 43 .nil) (mE0 0 .nil))))]⟩
def t63:=d62::t62
def d63:Df:=⟨.me 3,"fail",2,2,sL [.cd (.tr (mE0 38 .nil)) (sL [.rn]) .nil,.fl 3 9 vN0 (.k .non),.fl 3 8 vN0 vN1,.fl 3 10 vN0 (.ca 48 (A1 (mE0 46 (A1 (mE0 44 .nil)))))]⟩
def t64:=d63::t63
def d64:Df:=⟨.fn,"_law_shut",3,2,sL [.set 2 (.ca 1 (A2 vN0 vN1)),.dr (mE0 0 (A1 7)),.dr (mE0 11 .nil),.rt (.an (.b2 oEqL .v (.ca 1 (A2 vN0 vN1)) vN2) (.an (.b2 oIs .v (mE0 39 .nil) (.k (.bl θ))) (.b2 oIs .v (mE0 38 .nil) (.k .non))))]⟩
def t65:=d64::t64
def d65:Df:=⟨.fn,"_law_fails",4,3,sL [.set 3 (.ca 2 (A2 vN0 vN1)),.dr (mE0 1 (A1 vN2)),.rt (.b2 oEqL .v (.ca 2 (A2 vN0 vN1)) vN3)]⟩
def t66:=d65::t65
def d66:Df:=⟨.fn,"_law_home",9,2,sL [.set 2 (.dn .o θ),.fo (.many [3,4,5]) (.it (vN1/0)) (sL [.put vN2 (.tu (A2 vN3 0)) (mE0 9 (A1 vN3))]),.fo (.many [3,6,5]) (.it (vN1/1)) (sL [.set 7 (mE0 7 (A1 vN3)),.fo (.one 8) (rG1 vN6) (sL [.put vN2 (.tu (A2 vN3 vN8)) (vN7/vN8)])]),.rt vN2]⟩
def t67:=d66::t66
def d67:Df:=⟨.me 3,"count",1,1,sL [.rt (.cd (.tr (.b2 oIs .v (mE0 41 .nil) (.k .non))) (mE0 50 (A1 (mE0 48 .nil))/1) (.at 1 1 (aT0 3 9)))]⟩
def t68:=d67::t67
def d68:Df:=⟨.fn,"_law_nowhere",3,3,sL [cR0 (.to (.tr (.b2 vf .v (mE0 42 .nil) (.k .non))) (.to (.tr (.b2 vf .v (mE0 43 .nil) (.k (.bl ξ)))) (tsN (mE0 0 .nil) (vN1/1)))) (.k (.bl ξ)),.rt (.b2 oEq .v (cO0 [ψ,ς 0] (.it vN2) (.me 39 vN1 (A1 vN0))) (.ls .v (A1 0)*eLn vN2))]⟩
def t69:=d68::t68
def d69:Df:=⟨.fn,"_law_up",9,4,sL [.set 4 (.ls .v (A3 (mE0 52 (A1 0)) (mE0 52 (A1 1)) (mE0 50 .nil))),.set 5 (vN4/mE0 50 .nil),.set 6 (.ca 2 (A2 vN0 vN1)),.fo (.many [7,8]) (.it (.sl .v (vN5/5) .no (.cons vN3 .nil))) (sL [cR0 (.tn (.tr (.ca 0 (A3 vN0 vN5 vN2)))) (.k (.bl ξ)),.dr (mE0 16 .nil),.put vN6 vN7 vN8,cR0 (.to (.tr (.b2 oNeT .v (.ca 2 (A2 vN0 vN1)) vN6)) (tsN (.ls .v (A3 (mE0 52 (A1 0)) (mE0 52 (A1 1)) (mE0 50 .nil))) vN4)) (.k (.bl ξ))]),.rt (.ca 0 (A3 vN0 vN5 vN2))]⟩
def t70:=d69::t69
def d70:Df:=⟨.fn,"_law_came_up",8,4,sL [.set 4 (mE0 53 (A1 (mE0 51 .nil))),.set 5 (.ca 10 (A2 vN0 vN1)),.dr (mE0 17 .nil),cR0 (.to (tsN (mE0 44 .nil) (vN4/0)) (.to (tsN (mE0 2 .nil) (vN4/1)) (.tr (.b2 oNeT .v (.ca 10 (A2 vN0 vN1)) vN5)))) (.k (.bl ξ)),.set 6 (.dc .v (vN4/4)),.fo (.one 7) (.it vN2) (sL [cR0 (tsN (mE0 41 (A1 vN7)) (.gt vN6 vN7 vN3)) (.k (.bl ξ))]),.rt (.an (.b2 oEq .v (mE0 53 (A1 (mE0 51 .nil))) vN4) (.b2 oIs .v (mE0 45 .nil) (.k (.bl ξ))))]⟩
def t71:=d70::t70
def d71:Df:=⟨.fn,"_law_failed",7,4,sL [.set 4 (.ca 68 (A2 vN3 5)),.set 5 (.ca 67 (A1 (vN4/1))),cR0 (.tn (.tr (.ca 5 (A3 vN0 vN1 vN5)))) (.k (.bl ξ)),.cd (tsE (vN4/2%2) 0) (sL [cR0 (.tn (.tr (.ca 1 (A4 vN0 vN1 vN2 (vN4/3%4))))) (.k (.bl ξ)),.set 5 (.ca 67 (A1 (vN4/4))),cR0 (.tn (.tr (.ca 5 (A3 vN0 vN1 vN5)))) (.k (.bl ξ))]) .nil,.set 6 (eLn (mE0 54 (A1 (mE0 52 .nil))/5)),.rt (.an (.ca 1 (A4 vN0 vN1 vN2 vN6)) (.ca 0 (A4 vN0 vN1 vN2 vN5)))]⟩
def t72:=d71::t71
def d72:Df:=⟨.fn,"law",6,1,sL [.set 1 (.ca 67 (A1 vN0)),.set 2 (.ca 71 (A2 (.ca 70 (A2 vN0 0)) 12)),.set 3 (.ca 63 (A3 (.sl .v vN0 (.cons 5 .nil) (.cons 25 .nil)) vN1 (.ca 66 (A2 (.ca 70 (A2 vN0 3)%2147483629) (vN1/0))))),.set 4 (.mk 52 (A3 vN3 (.ca 50 (A3 vN3 (.ca 70 (A2 vN0 4)) (.sl .v vN2 (.cons 5 .nil) (.cons 11 .nil)))) (vN1/3))),.fo (.one 5) (.it (.sl .v vN0 (.cons 25 .nil) (.cons 35 .nil))) (sL [cR0 (.tn (.tr (.ca 17 (A4 vN4 vN3 vN2 ((.ls .v (A3 15 15 61)/(vN5%3)*(vN5 \ 3%1009)) \ 1009))))) (.k (.bl ξ)),cR0 (.tr (.me 47 vN4 .nil)) (.ca 7 (A2 vN4 vN3)),cR0 (.tn (.tr (.ca 0 (A4 vN4 vN3 vN2 (vN5 \ 3))))) (.k (.bl ξ))]),.rt (.k (.bl θ))]⟩
def t73:=d72::t72
noncomputable def rn(ρ:Nat->Nat):CV->CV
 |.ref i=>.ref (ρ i)
 |.g d=>.g d
 |.fn a F=>.fn a F
 |.own b t=>.own b t
abbrev rnP{κ:Type}(ρ:Nat->Nat)(l:η (κ×CV)):η (κ×CV):=l.map λp=>(p.1,rn ρ p.2)
def rnO(ρ:Nat->Nat):CO->CO
 |.e l=>.e (l.map (rn ρ))
 |.t l=>.t (l.map (rn ρ))
 |.dK l=>.dK (rnP ρ l)
 |.dT l=>.dT (rnP ρ l)
 |.ins c l=>.ins c (l.map (rn ρ))
abbrev rnS(ρ:Nat->Nat)(δ:Sl):Sl:=δ.map (zd2 (rn ρ))
structure Em(ρ:Nat->Nat)(a b:CH):Prop where
 inj:∀i j,ρ i=ρ j->i=j
 get:∀{i o},a[i]?=ς o->b[ρ i]?=ς (rnO ρ o)
 nw:∀k,ρ (a.length+k)=b.length+k
def Kp(ρ:Nat->Nat)(b b':CH):Prop:=∀j,(∀i,ρ i≠j)->b'[j]?=b[j]?
def Go{β:Type}(ρ:Nat->Nat)(b:CH)(y:ζ (β×CH))(x:β)(a':CH):Prop:=∃b',y=ς (x,b')/\Em ρ a' b'/\Kp ρ b b'
def Tr{α:Type}(R:(Nat->Nat)->α->α)(f:FM α):Prop:=∀{ρ δ a x a' b},Em ρ a b->f δ a=ς (x,a')->Go ρ b (f (rnS ρ δ) b) (R ρ x) a'
noncomputable abbrev rI{α:Type}(_:Nat->Nat)(x:α):α:=x
abbrev rnA(ρ:Nat->Nat)(l:η CV):η CV:=l.map (rn ρ)
def TrD(F:Fd):Prop:=∀{ρ cs a x a' b},Em ρ a b->F cs a=ς (x,a')->Go ρ b (F (rnA ρ cs) b) (rn ρ x) a'
variable{b' a':CH}{δ:Sl}
section
variable{ρ:Nat->Nat}{a b:CH}{c:CV}{m:Md}{α β:Type}
theorem Kp.refl:Kp ρ b b:=λ_ _=>rfl
theorem Kp.trans{b'':CH}(h:Kp ρ b b')(k:Kp ρ b' b''):Kp ρ b b'':=λj O=>(k j O).trans (h j O)
theorem Go.bind{y:ζ (α×CH)}{x:α}{a'':CH}{k:α×CH->ζ (β×CH)}{z:β}(h:Go ρ b y x a')(W:∀b',Em ρ a' b'->Go ρ b' (k (x,b')) z a''):Go ρ b (y.bind k) z a'':=by have⟨b1,rfl,E,f⟩:=h;have⟨b2,h2,U,O⟩:=W b1 E;exact⟨b2,h2,U,f.trans O⟩
theorem Go.here{x:α}(E:Em ρ a b):Go ρ b (ς (x,b)) x a:=⟨b,rfl,E,.refl⟩
theorem Go.map{y:ζ (α×CH)}{x:α}{k:α×CH->β×CH}{z:β}(h:Go ρ b y x a')(O:∀b',k (x,b')=(z,b')):Go ρ b (y.map k) z a':=by have⟨b1,rfl,E,f⟩:=h;exact⟨b1,by rw[qa9,O],E,f⟩
theorem bG{i:Nat}:rn ρ (.ref i)=.ref (ρ i):=rfl
theorem fV{d:Dt}:rn ρ (.g d)=.g d:=rfl
theorem dW:(rn ρ c).sol=c.sol:=by cases c<;>rfl
omit x in
theorem EB:(rn ρ c).kp=c.kp:=by cases c<;>first|rfl|(rename_i b t;cases b<;>rfl)
omit x in
theorem CC:(rn ρ c).old=c.old:=by cases c<;>first|rfl|(rename_i b t;cases b<;>rfl)
theorem o9:rn ρ (lent c)=lent (rn ρ c):=by cases c<;>rfl
theorem vg:dN (rn ρ c)=dN c:=by cases c<;>rfl
theorem iq:bR (rn ρ c)=bR c:=by cases c<;>rfl
theorem cA:∀l:η CV,dats (l.map (rn ρ))=dats l
 |[]=>rfl
 |c::l=>by have:=cA l;cases c<;>simp[dats,rn,this]
theorem pb:∀l:η CV,gp (l.map (rn ρ))=gp l
 |[]=>rfl
 |c::l=>by
  have:=pb l;cases c with
  |g d=>cases d<;>simp[gp,rn,this]
  |_=>simp[gp,rn]
theorem kU(l:η CV):(l.map (rn ρ)).all CV.sol=l.all CV.sol:=by rw[zf6];exact List.all_congr rfl λc=>dW
theorem kW(l:η CV):(l.map (rn ρ)).all CV.old=l.all CV.old:=by rw[zf6];exact List.all_congr rfl λc=>CC
theorem CD(o:CO):vwO (rnO ρ o)=vwO o:=by
 cases o with
 |e l=>rwa[rnO,vwO,cA]
 |t l=>rfl
 |ins c l=>rfl
 |dK l|dT l=>have h:=cA (ρ:=ρ) (l.map (·.2));rw[qd1]at h;rwa[rnO,vwO,rnP,qd1,qb4];rwa[qb4]at h;rw[h]
theorem Em.vw(E:Em ρ a b){d:Dt}(h:vw a c=ς d):vw b (rn ρ c)=ς d:=by
 cases c with
 |ref i=>have⟨o,h1,h2⟩:=bS h;show(b[ρ i]?).bind vwO=ς d;rw[E.get h1,qa0,CD];exact h2
 |g d=>exact h
 |fn x F=>exact h
 |own x t=>exact h
theorem Em.vws(E:Em ρ a b):∀{l:η CV}{ds:η Dt},vws a l=ς ds->vws b (l.map (rn ρ))=ς ds
 |[],ds,h=>h
 |c::l,ds,h=>by have⟨d,h1,h2⟩:=bS h;have⟨es,O,rfl⟩:=mS h2;show(L2.vw b (rn ρ c)).bind _=_;rw[E.vw h1,qa0,E.vws O];rfl
theorem Em.push(E:Em ρ a b)(o:CO):Em ρ (a++[o]) (b++[rnO ρ o])/\Kp ρ b (b++[rnO ρ o])/\ρ a.length=b.length:=by
 have O:ρ a.length=b.length:=E.nw 0;refine⟨⟨E.inj,λ{i w} h=>?_,λk=>?_⟩,λj Y=>?_,O⟩
 .rcases qi4 i a.length with hi|hi
  .rw[gL hi]at h;have:=E.get h;rw[gL (ai this)];exact this
  .have U:i=a.length:=by have:=ai h;simp at this;lia
   subst U;simp at h;subst h;rw[O];simp
 .have:=E.nw (k+1);rwa[qc4,qm1];rw[show a.length+1+k=a.length+(k+1)by lia,this];lia
 .have W:j≠b.length:=λe=>Y _ (O.trans e.symm)
  rcases qi4 j b.length with hi|hi
  .rw[gL hi]
  .rw[qg4 (by simp;lia),qg4 hi]
theorem Em.set(E:Em ρ a b){i:Nat}{w:CO}(U:a[i]?=ς w)(o:CO):Em ρ (a.set i o) (b.set (ρ i) (rnO ρ o))/\Kp ρ b (b.set (ρ i) (rnO ρ o)):=by
 refine⟨⟨E.inj,λ{j u} h=>?_,λk=>‹E.nw k›⟩,λj O=>by rw[qv2 (O i)]⟩;by_cases O:i=j
 .subst O;rw[qe0 (ai U)]at h;cases h;rw[qe0 (ai (E.get U))]
 .rw[gN O]at h;rw[gN (λe=>O (E.inj _ _ e))];exact E.get h
omit x in
theorem Em.al(E:Em ρ a b){t:T}{x:CV}(h:al a t=ς (x,a')):Go ρ b (al b t) (rn ρ x) a':=by
 have O:∀o:CO,rnO ρ o=o->(CV.ref a.length,a++[o])=(x,a')->Go ρ b (ς (.ref b.length,b++[o])) (rn ρ x) a':=λo W e=>by cases e;have⟨h1,h2,Z⟩:=E.push o;rw[W]at h1 h2;exact⟨_,by rw[<- Z];rfl,h1,h2⟩
 have Y:∀l:η Dt,rnO ρ (.e (l.map .g))=.e (l.map .g):=λl=>by simp[rnO,rn,qb4]
 unfold L2.al at h ⊢;split at h
 .cases h;exact .here E
 .exact O _ (Y _) (qd3 h)
 .split at h
  .rename_i U;rwa[U,if_true];exact O _ (by simp[rnO,rn,rnP,qb4]) (qd3 h)
  .cases h
 .split at h
  .rename_i U;rwa[U,if_true];exact O _ (by simp[rnO,rn,rnP,qb4]) (qd3 h)
  .cases h
 .cases h
omit x in
theorem Em.fin(E:Em ρ a b){t:T}{x:CV}(h:fin m a t=ς (x,a')):Go ρ b (fin m b t) (rn ρ x) a':=by
 cases m with
 |v=>have⟨d,h1,h2⟩:=mS h;cases h2;exact⟨b,by show t.d.map _=_;rw[h1];rfl,E,.refl⟩
 |o=>exact E.al h
 |w=>
  unfold L2.fin at h ⊢;dsimp only at h ⊢;split at h<;>cases h
  rename_i O;rw[if_pos O];exact .here E
omit x in
theorem Em.finL(E:Em ρ a b){l:η CV}{x:CV}(h:finL m l a=ς (x,a')):Go ρ b (finL m (rnA ρ l) b) (rn ρ x) a':=by
 unfold L2.finL at h ⊢;rw[cA,kU];split at h
 .exact E.fin h
 .split at h<;>cases h
  rename_i hl;have⟨h1,h2,O⟩:=E.push (.e l);rw[if_pos hl];exact⟨_,by rw[<- O];rfl,h1,h2⟩
theorem nK{i:Nat}{c:CV}(h:δ[i]?=ς (ς c)):(rnS ρ δ)[i]?=ς (ς (rn ρ c)):=by simp[h]
theorem pc{κ:Type}[DecidableEq κ]{k:κ}:∀l:η (κ×CV),lkC (rnP ρ l) k=(lkC l k).map (rn ρ)
 |[]=>rfl
 |p::l=>by
  have O:=pc (k:=k) l;by_cases h:p.1=k
  .simp[lkC,rnP,qt9,h]
  .rwa[lkC,rnP,qa3,qt9,h,decide_false]at O ⊢;exact O
theorem CF{α β:Type}{f:α->β}{l:η α}{i:Int}:atI (l.map f) i=(atI l i).map f:=by unfold atI;rwa[qa6,qa8,Option.map_bind];rfl
theorem CG{o:CO}{d:Dt}:ixO (rnO ρ o) d=(ixO o d).map (rn ρ):=by
 cases o with
 |e l|t l=>rwa[ixO,rnO];cases asI d<;>simp[CF]
 |dK l=>rwa[ixO,rnO];cases cJ d<;>simp[pc]
 |dT l=>rwa[ixO,rnO];cases isK d<;>simp[pc]
 |ins c l=>rfl
theorem Em.ixV(E:Em ρ a b){d:Dt}{x:CV}(h:ixV a c d=ς x):ixV b (rn ρ c) d=ς (rn ρ x):=by
 cases c with
 |ref i=>have⟨o,h1,h2⟩:=bS h;show(b[ρ i]?).bind _=_;rw[E.get h1,qa0,CG,h2];rfl
 |g d'=>unfold L2.ixV at h ⊢;have⟨z,h1,h2⟩:=bS h;have⟨y,O,rfl⟩:=mS h2;exact h
 |fn z F=>cases h
 |own z t=>unfold L2.ixV at h ⊢;have⟨z,h1,h2⟩:=bS h;have⟨y,O,rfl⟩:=mS h2;exact h
end
variable{ρ:Nat->Nat}{src:η (ζ Nat)}{fi:FM (η Dt)}
section
variable{f fa fb fk fe:Fg}{ft fu:FM Bool}{fs:FM (η CV)}{m:Md}{F:Fd}
theorem tr_K{d:Dt}:Tr rn (eK d):=λE h=>by cases h;exact .here E
omit x in
theorem tr_V{i:Nat}:Tr rn (eV i):=λ{ρ δ a x a' b} E h=>by
 unfold eV at h ⊢;split at h<;>cases h
 rename_i c hc;rw[nK hc];dsimp only;rw[o9];exact .here E
theorem tr_2{g:Dt->Dt->ζ T}(U:Tr rn fa)(hb:Tr rn fb):Tr rn (e2 m g fa fb):=λE h=>by
 have⟨p,h1,h⟩:=bS h;have⟨q,h2,h⟩:=bS h;have⟨x,W,h⟩:=bS h;have⟨y,h4,h⟩:=bS h;have⟨t,Z,h⟩:=bS h;refine(U E h1).bind λb1 Y=>(hb Y h2).bind λb2 O=>?_
 dsimp only;rw[O.vw W,qa0,O.vw h4,qa0,Z];exact O.fin h
theorem vh(O:Tr rn f):Tr rI (iQ f):=λE h=>by
 have⟨p,h1,h⟩:=bS h;have⟨x,U,h⟩:=mS h;cases h;refine(O E h1).bind λb1 W=>?_
 dsimp only;rw[vg,U];exact .here W
theorem CI(U:Tr rn f):Tr rI (hW f):=λE h=>by
 have⟨p,h1,h⟩:=bS h;have⟨d,h2,h⟩:=bS h;have⟨x,W,h⟩:=mS h;cases h;refine(U E h1).bind λb1 O=>?_
 dsimp only;rw[O.vw h2,qa0,W];exact .here O
theorem EC(O:Tr rI ft):Tr rI (tNt ft):=λE h=>by have⟨p,h1,h⟩:=mS h;cases h;exact(O E h1).map λ_=>rfl
omit x in
theorem ED(U:Tr rI ft)(hb:Tr rI fu):Tr rI (tAn ft fu):=λE h=>by
 have⟨p,h1,h⟩:=bS h;refine(U E h1).bind λb1 O=>?_
 dsimp only;split at h
 .rename_i hp;rw[if_pos hp];exact hb O h
 .rename_i hp;rw[if_neg hp];cases h;exact .here O
omit x in
theorem EE(U:Tr rI ft)(hb:Tr rI fu):Tr rI (uk ft fu):=λE h=>by
 have⟨p,h1,h⟩:=bS h;refine(U E h1).bind λb1 O=>?_
 dsimp only;split at h
 .rename_i hp;rw[if_pos hp];cases h;exact .here O
 .rename_i hp;rw[if_neg hp];exact hb O h
theorem EF:Tr rI tYs:=λE h=>by cases h;exact .here E
omit x in
theorem CJ(U:Tr rn fa)(hb:Tr rn fb):Tr rn (eAn fa fb):=λE h=>by
 have⟨p,h1,h⟩:=bS h;have⟨x,h2,h⟩:=bS h;refine(U E h1).bind λb1 O=>?_
 dsimp only;rw[vg,h2,qa0];split at h
 .rename_i hp;rw[if_pos hp];exact hb O h
 .rename_i hp;rw[if_neg hp];cases h;exact .here O
theorem CK(O:Tr rn f):Tr rn (eNt f):=λE h=>by
 have⟨p,h1,h⟩:=bS h;have⟨x,h2,h⟩:=bS h;cases h;refine(O E h1).bind λb1 U=>?_
 dsimp only;rw[vg,h2,qa0];exact .here U
theorem CL(O:Tr rn f):Tr rn (eNg f):=λE h=>by
 have⟨p,h1,h⟩:=bS h;have⟨x,h2,h⟩:=bS h;cases h;refine(O E h1).bind λb1 U=>?_
 dsimp only;rw[iq,h2,qa0];exact .here U
omit x in
theorem CM(W:Tr rI ft)(U:Tr rn fa)(hb:Tr rn fb):Tr rn (eIf ft fa fb):=λE h=>by
 have⟨p,h1,h⟩:=bS h;refine(W E h1).bind λb1 O=>?_
 dsimp only;split at h
 .rename_i hp;rw[if_pos hp];exact U O h
 .rename_i hp;rw[if_neg hp];exact hb O h
theorem EG:Tr rnA aNl:=λE h=>by cases h;exact .here E
theorem EH(O:Tr rn f)(hs:Tr rnA fs):Tr rnA (aCn f fs):=λE h=>by have⟨p,h1,h⟩:=bS h;have⟨q,h2,h⟩:=mS h;cases h;exact(O E h1).bind λb1 U=>(hs U h2).map λ_=>rfl
theorem EI(U:Tr rn fa)(hb:Tr rn fb):Tr rn (eIx fa fb):=λE h=>by
 have⟨p,h1,h⟩:=bS h;have⟨q,h2,h⟩:=bS h;have⟨d,W,h⟩:=bS h;have⟨c,h4,h⟩:=mS h;cases h;refine(U E h1).bind λb1 Y=>(hb Y h2).bind λb2 O=>?_
 dsimp only;rw[O.vw W,qa0,O.ixV h4];exact .here O
omit x in
theorem EJ{c i:Nat}(U:Tr rn fa):Tr rn (eAt c i fa):=λ{ρ _ _ _ _ _} E h=>by
 have⟨p,h1,h⟩:=bS h;refine(U E h1).bind λb1 O=>?_
 rcases h
 rename_i j W;rcases h
 rename_i Y l hl;rcases h
 rename_i hc;have⟨x,h2,h⟩:=mS h;cases h;rw[W];rwa[bG,O.get hl,rnO,hc,if_true,qa8,h2,qa9];exact .here O
omit x in
theorem EK(hs:Tr rnA fs):Tr rn (eLs m fs):=λE h=>by
 have⟨p,h1,h⟩:=bS h;rcases h
 rename_i hl;refine(hs E h1).bind λb1 O=>?_
 dsimp only;rw[if_pos ‹hl›];exact O.finL h
omit x in
theorem EL(hs:Tr rnA fs):Tr rn (eTu fs):=λ{ρ _ _ _ _ _} E h=>by
 have⟨p,h1,h⟩:=bS h;rcases h
 rename_i hl;refine(hs E h1).bind λb1 O=>?_
 dsimp only;rw[if_pos ‹hl›,cA,kU];split at h
 .cases h;exact .here O
 .split at h<;>cases h
  rename_i hs;have⟨W,k2,U⟩:=O.push (.t p.1);rw[if_pos hs];exact⟨_,by rw[<- U];rfl,W,k2⟩
omit x in
theorem EM{n:Nat}(O:TrD F)(hs:Tr rnA fs):Tr rn (eCa n F fs):=λE h=>by
 have⟨p,h1,h⟩:=bS h;unfold kCa at h;rcases h
 rename_i hl;refine(hs E h1).bind λb1 U=>?_
 dsimp only;unfold kCa;rw[if_pos ⟨by rw[qa6];exact hl.1,by rw[kW];exact hl.2⟩];exact O U h
omit x in
theorem EN{c n:Nat}(hF:TrD F)(W:Tr rn fa)(hs:Tr rnA fs):Tr rn (eMe c n F fa fs):=λ{ρ _ _ _ _ _} E h=>by
 have⟨p,h1,h⟩:=bS h;refine(W E h1).bind λb1 U=>?_
 rcases h
 rename_i j Y;rcases h
 rename_i c' l hl;rcases h
 rename_i hc;have⟨q,h2,h⟩:=bS h;unfold kCa at h;rcases h
 rename_i O;rw[Y];rwa[bG,U.get hl,rnO,hc,if_true];refine(hs U h2).bind λb2 Z=>?_
 unfold kCa;have e:(CV.ref (ρ j)::rnA ρ q.1)=rnA ρ (.ref j::q.1):=rfl;rw[e,if_pos ⟨by rw[qa6];exact O.1,by rw[kW];exact O.2⟩];exact hF Z h
omit x in
theorem EO{c n:Nat}(hF:TrD F)(hs:Tr rnA fs):Tr rn (eMk c n F fs):=λ{ρ _ _ _ _ _} E h=>by
 have⟨p,h1,h⟩:=bS h;have⟨q,h2,h⟩:=bS h;unfold kCa at h2;rcases h2
 rename_i O;rcases h
 rename_i hq;split at h<;>cases h
 rename_i hlt;refine(hs E h1).bind λb1 Y=>?_
 have⟨k1,k2,Z⟩:=Y.push (.ins c []);have⟨b2,U,W,f2⟩:=hF k1 h2;rw[hq]at U;refine⟨b2,?_,W,k2.trans f2⟩;have e:(CV.ref b1.length::rnA ρ p.1)=rnA ρ (.ref p.2.length::p.1):=by rw[<- Z];rfl
 dsimp only;unfold kCa;rw[e,if_pos ⟨by rw[qa6];exact O.1,by rw[kW];exact O.2⟩];have e2:b1++[CO.ins c []]=b1++[rnO ρ (.ins c [])]:=rfl;rw[e2,U,qa0];have e3:=W.nw 0;have e4:=Y.nw (q.2.length-p.2.length);rw[show p.2.length+(q.2.length-p.2.length)=q.2.length+0 by lia,e3]at e4;have:b1.length<b2.length:=by lia
 rwa[rn];rw[if_pos this,Z]
theorem zW{o:ζ Fg}(O:∀f,o=ς f->Tr rn f):Tr rI (fOp o):=λE h=>by
 cases o with
 |none=>cases h;exact .here E
 |some f=>
  have⟨p,h1,h⟩:=bS h;have⟨i,h2,h⟩:=mS h;cases h;refine(O f rfl E h1).bind λb1 U=>?_
  dsimp only;rw[iq,h2];exact .here U
theorem EQ{lo hi:ζ Fg}(U:Tr rn fa)(hl:∀f,lo=ς f->Tr rn f)(W:∀f,hi=ς f->Tr rn f):Tr rn (eSl m fa lo hi):=λE h=>by
 have⟨p,h1,h⟩:=bS h;have⟨q,h2,h⟩:=bS h;have⟨r,Y,h⟩:=bS h;have⟨d,h4,h⟩:=bS h;have⟨t,h5,h⟩:=bS h;refine(U E h1).bind λb1 E1=>(zW hl E1 h2).bind λb2 Z=>(zW W Z Y).bind λb3 O=>?_
 dsimp only;rw[O.vw h4,qa0,h5];exact O.fin h
theorem tr_B{g:η Dt->ζ T}(hs:Tr rnA fs):Tr rn (eB m g fs):=λE h=>by
 have⟨p,h1,h⟩:=bS h;have⟨ds,h2,h⟩:=bS h;have⟨t,U,h⟩:=bS h;refine(hs E h1).bind λb1 O=>?_
 dsimp only;unfold kB;rw[O.vws h2,qa0,U];exact O.fin h
theorem ER{c:String}(U:Tr rn f):Tr rn (eIs c f):=λE h=>by
 have⟨p,h1,h⟩:=bS h;have⟨d,h2,h⟩:=bS h;cases h;refine(U E h1).bind λb1 O=>?_
 dsimp only;rw[O.vw h2,qa0];exact .here O
omit x in
theorem ES{g:Dt->η Dt->ζ T}(U:Tr rn fa)(hs:Tr rnA fs):Tr rn (eMt m g fa fs):=λE h=>by
 have⟨p,h1,h⟩:=bS h;refine(U E h1).bind λb1 Y=>?_
 rcases h
 rename_i z hz;have⟨q,h2,h⟩:=bS h;have⟨ds,W,h⟩:=bS h;have⟨t,h4,h⟩:=bS h;rw[hz];rwa[rn];refine(hs Y h2).bind λb2 O=>?_
 dsimp only;rw[O.vws W,qa0,h4];exact O.fin h
theorem ET{t:Bool}:Tr rn (eDn m t):=λE h=>E.fin h
theorem EU{a b:CH}{c:CV}(E:Em ρ a b)(h:ib a c=θ):ib b (rn ρ c)=θ:=by
 unfold ib at h ⊢;cases c with
 |ref i=>
  dsimp only[rn]at h ⊢;cases q:a[i]? with
  |none=>rw[q]at h;cases h
  |some o=>rw[E.get q];rw[q]at h;cases o<;>first|rfl|cases h
 |g d=>exact h
 |fn x F=>exact h
 |own x t=>exact h
omit x in
theorem Em.getV{a b:CH}{c z x:CV}{k:Dt}(E:Em ρ a b)(h:getV a c k z=ς x):getV b (rn ρ c) k (rn ρ z)=ς (rn ρ x):=by
 unfold L2.getV at h ⊢;cases c with
 |ref i=>
  dsimp only[rn]at h ⊢;cases q:a[i]? with
  |none=>rw[q]at h;cases h
  |some o=>
   rw[E.get q];rw[q]at h;cases o<;>try(cases h;done)
   all_goals
    have⟨k',h1,rfl⟩:=mS h;rwa[rnO,h1,qa9,pc];rename_i l;cases lkC l k'<;>rfl
 |g d=>have⟨y,h1,h⟩:=bS h;have⟨r,h2,rfl⟩:=mS h;dsimp only[rn];cases h1;rwa[L2.vw,qa0,h2,qa9];cases r<;>rfl
 |fn x F=>cases h
 |own w t=>have⟨y,h1,h⟩:=bS h;have⟨r,h2,rfl⟩:=mS h;dsimp only[rn];have h1:t.d=ς y:=h1;rwa[L2.vw,h1,qa0,h2,qa9];cases r<;>rfl
omit x in
theorem EV(W:Tr rn fa)(Z:Tr rn fk)(he:Tr rn fe):Tr rn (eGt fa fk fe):=λE h=>by
 have⟨p,h1,h⟩:=bS h;rcases h
 rename_i hd;have⟨q,h2,h⟩:=bS h;have⟨r,h3,h⟩:=bS h;have⟨k,h4,h⟩:=bS h;rcases h
 rename_i Y;have⟨c,h5,h⟩:=mS h;cases h;refine(W E h1).bind λb1 U=>?_
 dsimp only;rw[if_pos (EU U hd)];refine(Z U h2).bind λb2 E2=>(he E2 h3).bind λb3 O=>?_
 dsimp only;rw[O.vw h4,qa0,dW,if_pos Y,O.getV h5];exact .here O
omit x in
theorem Em.itm{a b:CH}{c:CV}{l:η (η Key×Dt)}(E:Em ρ a b)(h:nC a c=ς l):nC b (rn ρ c)=ς l:=by
 unfold nC at h ⊢;cases c with
 |ref i=>
  dsimp only[rn]at h ⊢;cases q:a[i]? with
  |none=>rw[q]at h;cases h
  |some o=>
   rw[E.get q];rw[q]at h;cases o<;>try(cases h;done)
   rename_i w;have e:rnP ρ w=w.map λp=>(p.1,rn ρ p.2):=rfl
   have O:(rnP ρ w).map (·.2)=(w.map (·.2)).map (rn ρ):=by simp[qb4]
   have e2:(rnP ρ w).map (·.1)=w.map (·.1):=by simp[qb4]
   rwa[rnO,O,e2,cA];exact h
 |g d=>exact h
 |fn x F=>exact h
 |own w t=>cases t<;>exact h
theorem EW(U:Tr rn fa):Tr rn (eIl m fa):=λE h=>by
 have⟨p,h1,h⟩:=bS h;have⟨l,h2,h⟩:=bS h;refine(U E h1).bind λb1 O=>?_
 dsimp only;rw[O.itm h2,qa0];exact O.fin h
omit x in
theorem Em.lst{a b:CH}{i:Nat}{l:η CV}(E:Em ρ a b)(h:cH a i=ς l):cH b (ρ i)=ς (rnA ρ l)/\a[i]?=ς (.e l):=by
 unfold cH at h ⊢;split at h<;>cases h
 rename_i q;rw[E.get q];exact⟨rfl,q⟩
theorem fW{α β:Type}(f:α->β):∀(l:η α)(i:Nat),(l.map f).eraseIdx i=(l.eraseIdx i).map f
 |[],_=>rfl
 |_::_,0=>rfl
 |x::l,i+1=>by rwa[qa3,List.eraseIdx_cons_succ,fW f l i]
omit x in
theorem CN(W:Tr rn fa)(he:Tr rn fe):Tr rn (rP fa fe):=λ{ρ _ _ _ _ _} E h=>by
 have⟨p,h1,h⟩:=bS h;have⟨q,h2,h⟩:=bS h;rcases h
 rename_i i hi;have⟨l0,Z,h⟩:=bS h;have⟨l,h4,h⟩:=bS h;have⟨j,h5,h⟩:=bS h;rcases h
 rename_i Y;have⟨c,h6,h⟩:=mS h;cases h;refine(W E h1).bind λb1 U=>(he U h2).bind λb2 O=>?_
 have⟨k1,k2⟩:=O.set (O.lst h4).2 (.e (l.eraseIdx j.toNat));rw[hi];rwa[bG,(U.lst Z).1,(O.lst h4).1,qa0,iq,h5,qa6];rw[if_pos Y];rwa[qa8,h6,qa9];refine⟨_,rfl,?_,?_⟩
 .rw[fW];exact k1
 .rw[fW];exact k2
theorem Em.seq{a b:CH}{c:CV}{l:η CV}(E:Em ρ a b)(h:l4 a c=ς l):l4 b (rn ρ c)=ς (rnA ρ l):=by
 have O:∀l:η Dt,rnA ρ (l.map .g)=l.map .g:=λl=>by simp[rn,qb4]
 unfold l4 at h ⊢;cases c with
 |ref i=>
  dsimp only[rn]at h ⊢;cases q:a[i]? with
  |none=>rw[q]at h;cases h
  |some o=>rw[E.get q];rw[q]at h;cases o<;>first|(cases h;done)|(cases h;rfl)
 |g d=>cases d<;>first|(cases h;done)|(cases h;rw[O];rfl)
 |fn x F=>cases h
 |own w t=>cases t<;>first|(cases h;done)|(cases h;rw[O];rfl)
omit x in
theorem Em.pair{a b:CH}{c:CV}{p:Key×CV}(E:Em ρ a b)(h:bY a c=ς p):bY b (rn ρ c)=ς (p.1,rn ρ p.2):=by
 cases c with
 |ref i=>
  unfold bY at h ⊢;dsimp only[rn]at h ⊢;rcases h
  rename_i k c hc;have⟨k',h1,rfl⟩:=mS h;rw[E.get hc];rwa[rnO,qa3,qf8,rn,h1,qa9]
 |g d=>
  unfold bY at h;rcases h
  .rename_i k d e;cases e;have⟨k',h1,rfl⟩:=mS h;rwa[bY,rn,h1,qa9]
  .rename_i e;cases e
 |fn x F=>cases h
 |own w t=>cases h
theorem Em.pairs{a b:CH}(E:Em ρ a b):∀{l:η CV}{ps:η (Key×CV)},aT a l=ς ps->aT b (rnA ρ l)=ς (rnP ρ ps)
 |[],ps,h=>by cases h;rfl
 |c::l,ps,h=>by have⟨p,h1,h⟩:=bS h;have⟨O,h2,rfl⟩:=mS h;show(bY b (rn ρ c)).bind _=_;rw[E.pair h1,qa0,E.pairs h2];rfl
omit x in
theorem EX(U:Tr rn fa):Tr rn (eDc m fa):=λ{ρ _ _ _ _ _} E h=>by
 have⟨p,h1,h⟩:=bS h;have⟨l,h2,h⟩:=bS h;have⟨ps,Y,h⟩:=bS h;rcases h
 rename_i W;refine(U E h1).bind λb1 O=>?_
 have Z:(rnP ρ ps).map (·.2)=(ps.map (·.2)).map (rn ρ):=by simp[qb4]
 have e2:(rnP ρ ps).map (·.1)=ps.map (·.1):=by simp[qb4]
 dsimp only;rw[O.seq h2,qa0,O.pairs Y,qa0,e2,if_pos W];unfold l5 at h ⊢;rw[Z,e2,cA,kU];split at h
 .exact O.fin h
 .split at h
  rotate_left
  .cases h
  rename_i hl;cases h;have⟨k1,k2,k3⟩:=O.push (.dK ps);rw[if_pos hl];exact⟨_,by rw[<- k3];rfl,k1,k2⟩
omit x in
theorem EY(O:Tr rn f):Tr rI (iE f):=λE h=>by
 have⟨p,h1,h⟩:=bS h;refine(O E h1).bind λb1 W=>?_
 rcases h
 rename_i d U;have⟨l,h2,h⟩:=mS h;cases h;rw[U];rwa[rn,h2,qa9];exact .here W
theorem EZ{n:Nat}(hs:Tr rnA fs):Tr rI (iR n fs):=λE h=>by
 have⟨p,h1,h⟩:=bS h;have⟨is,h2,h⟩:=bS h;have⟨l,O,h⟩:=mS h;cases h;refine(hs E h1).bind λb1 U=>?_
 dsimp only;rw[pb,h2,qa0,O];exact .here U
omit x in
theorem E4(O:Tr rn f):Tr rI (iN f):=λE h=>by
 have⟨p,h1,h⟩:=bS h;refine(O E h1).bind λb1 W=>?_
 rcases h
 all_goals
  rename_i d U;cases h;rw[U];exact .here W
theorem pi{ρ:Nat->Nat}:∀{is:η Nat}{ds:η Dt}{δ δ':Sl},iT is ds δ=ς δ'->iT is ds (rnS ρ δ)=ς (rnS ρ δ')
 |[],[],δ,δ',h=>by cases h;rfl
 |i::is,d::ds,δ,δ',h=>by have:=pi (ρ:=ρ) (is:=is) (ds:=ds) h;rwa[rnS,qu6,qa9,rn]at this;exact this
 |[],_::_,_,_,h=>by cases h
 |_::_,[],_,_,h=>by cases h
theorem nM{pt:Pt}{d:Dt}{δ':Sl}(h:bnd pt d δ=ς δ'):bnd pt d (rnS ρ δ)=ς (rnS ρ δ'):=by
 cases pt with
 |one i=>cases h;rwa[bnd,rnS,qu6,qa9,rn]
 |many is=>cases d<;>first|(cases h;done)|exact pi h
theorem E5:gC src (rnS ρ δ)=rnS ρ (gC src δ):=by
 unfold gC rnS;rw[qd1];refine qg3 λo _=>?_
 cases o with
 |none=>rfl
 |some j=>
  show((zg2 (zd2 (rn ρ)) δ)[j]?.join).map lent=(((δ[j]?).join).map lent).map (rn ρ);rw[qa8];cases q:δ[j]? with
  |none=>rfl
  |some x=>cases x with
   |none=>rfl
   |some c=>show ς (lent (rn ρ c))=ς (rn ρ (lent c));rw[o9]
omit x in
theorem kX{pt:Pt}(O:Tr rI ft)(he:Tr rn fe):∀{l:η Dt}{a b:CH}{x:η CV}{a':CH},Em ρ a b->aE (bnd pt) ft fe δ l a=ς (x,a')->Go ρ b (aE (bnd pt) ft fe (rnS ρ δ) l b) (rnA ρ x) a'
 |[],a,b,x,a',E,h=>by cases h;exact .here E
 |d::l,a,b,x,a',E,h=>by
  have⟨δ1,h1,h⟩:=bS h;have⟨p,h2,h⟩:=bS h;show Go ρ b ((bnd pt d (rnS ρ δ)).bind _) _ _;rw[nM h1,qa0];refine(O E h2).bind λb1 U=>?_
  dsimp only;split at h
  .rename_i hp;rw[if_pos hp];have⟨q,Y,h⟩:=bS h;rcases h
   rename_i W;have⟨z,h4,h⟩:=mS h;cases h;refine(he U Y).bind λb2 Z=>?_
   dsimp only;rw[dW,if_pos W];exact(kX O he Z h4).map λ_=>rfl
  .rename_i hp;rw[if_neg hp];exact kX O he U h
omit x in
theorem E6{pt:Pt}(hi:Tr rI fi)(W:Tr rI ft)(he:Tr rn fe):Tr rn (eCo m src fi (bnd pt) ft fe):=λE h=>by
 have⟨p,h1,h⟩:=bS h;have⟨q,h2,h⟩:=bS h;rcases h
 rename_i hl;refine(hi E h1).bind λb1 U=>?_
 dsimp only;rw[E5];refine(kX W he U h2).bind λb2 O=>?_
 dsimp only;rw[if_pos ‹hl›];exact O.finL h
end
noncomputable def Og.hp:Og->CH
 |.nx _ ch|.rt _ ch|.bk _ ch|.ct _ ch=>ch
def Og.mv(ρ:Nat->Nat)(b:CH):Og->Og
 |.nx δ _=>.nx (rnS ρ δ) b
 |.rt c _=>.rt (rn ρ c) b
 |.bk δ _=>.bk (rnS ρ δ) b
 |.ct δ _=>.ct (rnS ρ δ) b
def GoS(ρ:Nat->Nat)(b:CH)(y:ζ Og)(o:Og):Prop:=∃b',y=ς (o.mv ρ b')/\Em ρ o.hp b'/\Kp ρ b b'
def TrS(g:Fs):Prop:=∀{ρ δ a o b},Em ρ a b->g δ a=ς o->GoS ρ b (g (rnS ρ δ) b) o
section
variable{ρ:Nat->Nat}{a b:CH}{α:Type}
theorem Go.bindS{y:ζ (α×CH)}{x:α}{k:α×CH->ζ Og}{o:Og}(h:Go ρ b y x a')(W:∀b',Em ρ a' b'->GoS ρ b' (k (x,b')) o):GoS ρ b (y.bind k) o:=by have⟨b1,rfl,E,f⟩:=h;have⟨b2,h2,U,O⟩:=W b1 E;exact⟨b2,h2,U,f.trans O⟩
theorem GoS.bind{y:ζ Og}{o' o:Og}{k:Og->ζ Og}(h:GoS ρ b y o')(W:∀b',Em ρ o'.hp b'->GoS ρ b' (k (o'.mv ρ b')) o):GoS ρ b (y.bind k) o:=by have⟨b1,rfl,E,f⟩:=h;have⟨b2,h2,U,O⟩:=W b1 E;exact⟨b2,h2,U,f.trans O⟩
theorem GoS.nx(E:Em ρ a b):GoS ρ b (ς (.nx (rnS ρ δ) b)) (.nx δ a):=⟨b,rfl,E,.refl⟩
theorem GoS.rt{c:CV}(E:Em ρ a b):GoS ρ b (ς (.rt (rn ρ c) b)) (.rt c a):=⟨b,rfl,E,.refl⟩
theorem GoS.put{i:Nat}{w o:CO}(E:Em ρ a b)(O:a[i]?=ς w):GoS ρ b (ς (.nx (rnS ρ δ) (b.set (ρ i) (rnO ρ o)))) (.nx δ (a.set i o)):=let ⟨h1,h2⟩:=E.set O o;⟨_,rfl,h1,h2⟩
end
variable{o':CO}
section
variable{f fa fb fk fe:Fg}{ft fu:FM Bool}{fs:FM (η CV)}{m:Md}{F:Fd}{g g1 g2:Fs}{i:Nat}
theorem CP:TrS gr:=λE h=>by cases h;exact .nx E
theorem CQ(h1:TrS g1)(h2:TrS g2):TrS (aZ g1 g2):=λE h=>by
 have⟨o,U,h⟩:=bS h;refine(h1 E U).bind λb1 O=>?_
 cases o with
 |nx δ ch=>exact h2 O h
 |_=>cases h;exact⟨b1,rfl,O,.refl⟩
theorem ir{c:CV}:rnS ρ (δ.set i (ς c))=(rnS ρ δ).set i (ς (rn ρ c)):=by rwa[rnS,qu6,qa9]
omit x in
theorem E7(O:TrS g):TrS (sFz i g):=λ{ρ δ a o b} E h=>by
 unfold sFz at h ⊢;rcases h
 rename_i t U;have⟨d,h1,h⟩:=bS h;rw[nK U];rwa[rn,h1,qa0];have:=O E h;rw[ir]at this;exact this
theorem E8(O:Tr rn f):TrS (sDr f):=λE h=>by have⟨p,h1,rfl⟩:=mS h;have⟨b1,h2,U,k⟩:=O E h1;exact⟨b1,by unfold sDr;rw[h2];rfl,U,k⟩
omit x in
theorem E9(O:Tr rn f):TrS (sRt f):=λE h=>by
 have⟨p,h1,h⟩:=bS h;split at h<;>cases h
 rename_i U;refine(O E h1).bindS λb1 W=>?_
 dsimp only;rw[dW,if_pos U];exact .rt W
theorem Fa:TrS sRn:=λE h=>by cases h;exact⟨_,rfl,E,.refl⟩
omit x in
theorem Fb(U:Tr rI ft)(h1:TrS g1)(h2:TrS g2):TrS (sIf ft g1 g2):=λE h=>by
 have⟨p,W,h⟩:=bS h;refine(U E W).bindS λb1 O=>?_
 dsimp only;split at h
 .rename_i hp;rw[if_pos hp];exact h1 O h
 .rename_i hp;rw[if_neg hp];exact h2 O h
omit x in
theorem CS(O:Tr rn f):TrS (iS i f):=λE h=>by
 have⟨p,h1,h⟩:=bS h;split at h<;>cases h
 rename_i U;refine(O E h1).bindS λb1 W=>?_
 dsimp only;rw[EB,if_pos U,<- ir];exact .nx W
theorem kY{pt:Pt}(W:TrS g):∀{l:η Dt}{δ:Sl}{a b:CH}{o:Og},Em ρ a b->bM (bnd pt) g l δ a=ς o->GoS ρ b (bM (bnd pt) g l (rnS ρ δ) b) o
 |[],δ,a,b,o,E,h=>by cases h;exact .nx E
 |d::l,δ,a,b,o,E,h=>by
  have⟨Z,h1,h⟩:=bS h;have⟨Y,h2,h⟩:=bS h;show GoS ρ b ((bnd pt d (rnS ρ δ)).bind _) _;rw[nM h1,qa0];refine(W E h2).bind λb1 U=>?_
  cases Y with
  |nx O ch2=>exact kY W U h
  |ct O ch2=>exact kY W U h
  |bk O ch2=>cases h;exact .nx U
  |rt c ch2=>cases h;exact .rt U
theorem CT{pt:Pt}(hi:Tr rI fi)(O:TrS g):TrS (rA fi (bnd pt) g):=λE h=>by have⟨p,h1,h⟩:=bS h;exact(hi E h1).bindS λb1 U=>kY O U h
omit x in
theorem vj(Y:Tr rI ft)(W:TrS g):∀{n:Nat},TrS (whZ ft g n)
 |0,_,_,_,_,_,_,h=>by cases h
 |n+1,ρ,δ,a,o,b,E,h=>by
  have⟨p,h1,h⟩:=bS h;refine(Y E h1).bindS λb1 Z=>?_
  dsimp only;split at h
  .rename_i hp;rw[if_pos hp];have⟨o1,h2,h⟩:=bS h;refine(W Z h2).bind λb2 U=>?_
   cases o1 with
   |nx O ch2=>exact vj Y W U h
   |ct O ch2=>exact vj Y W U h
   |bk O ch2=>cases h;exact .nx U
   |rt c ch2=>cases h;exact .rt U
  .rename_i hp;rw[if_neg hp];cases h;exact .nx Z
theorem pj{κ:Type}[DecidableEq κ]{ρ:Nat->Nat}{k:κ}{c:CV}:∀l:η (κ×CV),bc (rnP ρ l) k (rn ρ c)=rnP ρ (bc l k c)
 |[]=>rfl
 |p::l=>by
  have O:=pj (ρ:=ρ) (k:=k) (c:=c) l;rwa[bc,rnP,qa3]at O ⊢;split
  .rfl
  .rw[O];rfl
omit x in
theorem yE{o:CO}{d:Dt}{c:CV}(h:eN o d c=ς o'):eN (rnO ρ o) d (rn ρ c)=ς (rnO ρ o'):=by
 cases o with
 |e l=>have⟨j,h1,h⟩:=bS h;have⟨n,h2,rfl⟩:=mS h;rwa[eN,rnO,h1,qa0,qa6,h2,qa9,qu6]
 |dK l|dT l=>
  have⟨j,h1,h⟩:=bS h;split at h<;>cases h
  rename_i hl;rwa[eN,rnO,h1,qa0,qa6,hl,if_true,pj]
 |t l=>cases h
 |ins c l=>cases h
omit x in
theorem CU(W:Tr rn fa)(Z:Tr rn fk)(he:Tr rn fe):TrS (sPt fa fk fe):=λ{ρ _ _ _ _} E h=>by
 have⟨p,h1,h⟩:=bS h;have⟨q,h2,h⟩:=bS h;have⟨r,h3,h⟩:=bS h;rcases h
 rename_i j hj;rcases h
 rename_i Y;have⟨d,h4,h⟩:=bS h;have⟨o',h5,rfl⟩:=mS h;have⟨o,U,h7⟩:=bS h5;refine(he E h1).bindS λb1 E1=>(W E1 h2).bindS λb2 E2=>(Z E2 h3).bindS λb3 O=>?_
 rw[hj];rwa[bG,dW,Y,if_true,O.vw h4,qa0,O.get U,yE h7,qa9];exact .put O U
theorem vm:cG (rnS ρ δ) i=cG δ i:=by
 unfold cG;rw[qa8];cases q:δ[i]? with
 |none=>rfl
 |some x=>cases x with
  |none=>rfl
  |some c=>cases c<;>rfl
omit x in
theorem CW(U:Tr rn fk)(he:Tr rn fe):TrS (sPs i fk fe):=λ{ρ δ _ _ _} E h=>by
 have⟨p,h1,h⟩:=bS h;have⟨r,Y,h⟩:=bS h;rcases h
 rename_i x W;have⟨d,h4,h⟩:=bS h;have⟨t,h5,h⟩:=bS h;have⟨t',h6,rfl⟩:=mS h;refine(he E h1).bindS λb1 Z=>(U Z Y).bindS λb3 O=>?_
 rw[W];rwa[fV,O.vw h4,qa0,vm,h5,h6,qa9];have e:(rnS ρ δ).set i (ς (.own θ t'))=rnS ρ _:=(ir (ρ:=ρ) (c:=.own θ t')).symm;rw[e];exact .nx O
omit x in
theorem pk{c k:Nat}{o:CO}{x:CV}(h:cV c k o x=ς o'):cV c k (rnO ρ o) (rn ρ x)=ς (rnO ρ o'):=by
 cases o<;>try(cases h;done)
 rename_i W l;unfold cV at h ⊢;rwa[rnO,qa6,dW];simp only at h;rcases h
 rename_i hc;rw[if_pos hc];split at h
 .rename_i U;rw[if_pos U];cases h;rwa[qu6,rnO]
 .rename_i U;rw[if_neg U];split at h<;>cases h
  rename_i O;rw[if_pos O];rwa[rnO,qd6,qa3,qf8]
omit x in
theorem Fc{c k:Nat}(W:Tr rn fa)(he:Tr rn fe):TrS (sFl c k fa fe):=λ{ρ _ _ _ _} E h=>by
 have⟨p,h1,h⟩:=bS h;have⟨q,h2,h⟩:=bS h;rcases h
 rename_i j Y;have⟨o',h5,rfl⟩:=mS h;have⟨o,U,h7⟩:=bS h5;refine(he E h1).bindS λb1 Z=>(W Z h2).bindS λb2 O=>?_
 rw[Y];rwa[bG,O.get U,qa0,pk h7,qa9];exact .put O U
omit x in
theorem Fe{c k:Nat}{op:Int->Int->Int}(Y:Tr rn fa)(he:Tr rn fe):TrS (sFa c k op fa fe):=λ{ρ _ _ _ _} E h=>by
 have⟨p,h1,h⟩:=bS h;rcases h
 rename_i j Z;rcases h
 rename_i c' l hl;rcases h
 rename_i hc;have⟨x,h2,h⟩:=bS h;have⟨n,h3,h⟩:=bS h;have⟨q,h4,h⟩:=bS h;have⟨n2,h5,h⟩:=bS h;have⟨o',h6,rfl⟩:=mS h;have⟨o,U,h8⟩:=bS h6;refine(Y E h1).bindS λb1 O=>?_
 rw[Z];rwa[bG,O.get hl,rnO,hc,if_true,qa8,h2,qa9,qa0,iq,h3];refine(he O h4).bindS λb2 W=>?_
 have:=pk (ρ:=ρ) h8;rw[fV]at this;rwa[iq,h5,qa0,W.get U,this,qa9];exact .put W U
theorem Ff{op:Int->Int->Int}(he:Tr rn fe):TrS (sAu i op fe):=λ{ρ δ _ _ _} E h=>by
 have⟨n,h1,h⟩:=bS h;have⟨q,h2,h⟩:=bS h;have⟨k,U,rfl⟩:=mS h
 have e:((rnS ρ δ)[i]?.join.bind bR)=ς n:=by
  have⟨c,O,k2⟩:=bS h1
  have:δ[i]?=ς (ς c):=by
   cases q:δ[i]? with
   |none=>rw[q]at O;cases O
   |some y=>rw[q]at O;simp at O;rw[O]
  rw[nK this];simp[iq,k2]
 unfold sAu;rw[e,qa0];refine(he E h2).bindS λb2 W=>?_
 rwa[iq,U,qa9];have e:(rnS ρ δ).set i (ς (.g (.int (op n k))))=rnS ρ _:=(ir (ρ:=ρ) (c:=.g (.int (op n k)))).symm;rw[e];exact .nx W
omit x in
theorem Fh{pt:Pt}(he:Tr rn fe):TrS (sUn pt fe):=λ{ρ δ _ _ _} E h=>by
 have⟨p,h1,h⟩:=bS h;rcases h
 rename_i d O;have⟨δ',h2,rfl⟩:=mS h;refine(he E h1).bindS λb2 U=>?_
 rw[O];rwa[fV,nM h2,qa9];exact .nx U
omit x in
theorem Fi(W:Tr rn fa)(he:Tr rn fe):TrS (sAp fa fe):=λ{ρ δ _ _ _} E h=>by
 have⟨p,h1,h⟩:=bS h;have⟨q,h2,h⟩:=bS h;rcases h
 rename_i j Y;have⟨l0,Z,h⟩:=bS h;have⟨l,h4,h⟩:=bS h;rcases h
 rename_i hl;cases h;refine(W E h1).bindS λb1 U=>(he U h2).bindS λb2 O=>?_
 rw[Y];rwa[bG,(U.lst Z).1,(O.lst h4).1,qa0,qa6,dW];rw[if_pos hl];have:=GoS.put (δ:=δ) (o:=.e (l++[q.1])) O (O.lst h4).2;rwa[rnO,qd6,qa3,qf8]at this;exact this
omit x in
theorem CY(he:Tr rn fe):TrS (sAs i fe):=λ{ρ δ _ _ _} E h=>by
 have⟨q,h2,h⟩:=bS h;rcases h
 rename_i d l O hl;rcases h
 rename_i hz;cases h;refine(he E h2).bindS λb2 U=>?_
 rw[O];rwa[fV,vm,hl];rw[if_pos hz];have e:(rnS ρ δ).set i (ς (.own θ (.e (l++[d]))))=rnS ρ _:=(ir (ρ:=ρ) (c:=.own θ (.e (l++[d])))).symm;rw[e];exact .nx U
omit x in
theorem Fj{t:Bool}(Y:Tr rn fa):TrS (sCl t fa):=λ{ρ _ _ _ _} E h=>by
 have⟨p,h1,h⟩:=bS h;rcases h
 rename_i j Z;have⟨o',h5,rfl⟩:=mS h;have⟨o,U,W⟩:=bS h5;refine(Y E h1).bindS λb2 O=>?_
 have e:Cj t (rnO ρ o)=ς (rnO ρ o'):=by cases o<;>cases t<;>first|(cases W;done)|(cases W;rfl)
 rw[Z];rwa[bG,O.get U,qa0,e,qa9];exact .put O U
omit x in
theorem Em.dk{a b:CH}{i:Nat}{l:η (Key×CV)}(E:Em ρ a b)(h:gu a i=ς l):gu b (ρ i)=ς (rnP ρ l)/\a[i]?=ς (.dK l):=by
 unfold gu at h ⊢;split at h<;>cases h
 rename_i q;rw[E.get q];exact⟨rfl,q⟩
omit x in
theorem Fk(W:Tr rn fa)(he:Tr rn fe):TrS (sUp fa fe):=λ{ρ δ _ _ _} E h=>by
 have⟨p,h1,h⟩:=bS h;have⟨q,h2,h⟩:=bS h;rcases h
 rename_i i j hi Y;have⟨l0,Z,h⟩:=bS h;have⟨l,h4,h⟩:=bS h;have⟨n,h5,h⟩:=bS h;rcases h
 rename_i hl;cases h;refine(W E h1).bindS λb1 U=>(he U h2).bindS λb2 O=>?_
 rw[hi,Y];have e:((rnP ρ l++rnP ρ n).map (·.1))=(l++n).map (·.1):=by simp[qb4]
 rwa[bG,(U.dk Z).1,(O.dk h4).1,(O.dk h5).1,qa0];rw[if_pos ⟨λz=>hl.1 (O.inj _ _ z),by rw[e];exact hl.2.1,‹hl.2.2›⟩];have:=GoS.put (δ:=δ) (o:=.dK (l++n)) O (O.dk h4).2;rwa[rnO,rnP,qd6]at this;exact this
end
def TrN:En->Prop
 |.fn _ _ F|.me _ _ _ F|.mk _ _ F=>TrD F
section
variable{tb:Tb}
theorem ba:Tr rn nF:=λ_ h=>by cases h
theorem aa{α:Type}{R:(Nat->Nat)->α->α}:Tr R (λ_ _=>ψ):=λ_ h=>by cases h
theorem tr_E(ht:∀e∈tb.f,TrN e):∀e:E,Tr rn (evE tb e)/\Tr rI (evT tb e)/\Tr rnA (evA tb e)/\Tr rI (evI tb e)/\(∀f,evO tb e=ς f->Tr rn f)/\Tr rI (iQ (evE tb e)):=by
 have one:∀{e:E},Tr rn (evE tb e)->Tr rI (evT tb e)->Tr rnA (evA tb e)->Tr rI (evI tb e)->(∀f,evO tb e=ς f->Tr rn f)->Tr rn (evE tb e)/\Tr rI (evT tb e)/\Tr rnA (evA tb e)/\Tr rI (evI tb e)/\(∀f,evO tb e=ς f->Tr rn f)/\Tr rI (iQ (evE tb e)):=λh1 h2 h3 h4 h5=>⟨h1,h2,h3,h4,h5,vh h1⟩
 have no:∀f,ς nF=ς f->Tr rn f:=λf h=>by cases h;exact ba
 intro e;induction e with
 |k d=>exact one tr_K (@aa _ _) (@aa _ _) (@aa _ _) no
 |v i=>exact one tr_V (@aa _ _) (@aa _ _) (@aa _ _) no
 |g j=>
  refine one ?_ (@aa _ _) (@aa _ _) (@aa _ _) no;show Tr rn (gcE tb.gc[j]?);cases tb.gc[j]? with
  |none=>show Tr rn nF;exact ba
  |some p=>show Tr rn (eK p.2);exact tr_K
 |b2 o m x y O W=>exact one (tr_2 O.1 W.1) (@aa _ _) (@aa _ _) (@aa _ _) no
 |nt x O=>exact one (CK O.1) (@aa _ _) (@aa _ _) (@aa _ _) no
 |ng x O=>exact one (CL O.1) (@aa _ _) (@aa _ _) (@aa _ _) no
 |an x y O W=>exact one (CJ O.1 W.1) (@aa _ _) (@aa _ _) (@aa _ _) no
 |cd c x y hc O W=>exact one (CM hc.2.1 O.1 W.1) (@aa _ _) (@aa _ _) (@aa _ _) no
 |tr x O=>refine one ba ?_ (@aa _ _) (@aa _ _) no;have h0:Tr rI (hW (evE tb x)):=CI O.1;have h1:Tr rI (iQ (evE tb x)):=vh O.1;cases x<;>first|exact @h0|exact @h1
 |tn x O=>exact one ba (EC O.2.1) (@aa _ _) (@aa _ _) no
 |ta x y O W=>exact one ba (ED O.2.1 W.2.1) (@aa _ _) (@aa _ _) no
 |to x y O W=>exact one ba (EE O.2.1 W.2.1) (@aa _ _) (@aa _ _) no
 |bn o m as U=>exact one (tr_B U.2.2.1) (@aa _ _) (@aa _ _) (@aa _ _) no
 |ii c x O=>exact one (ER O.1) (@aa _ _) (@aa _ _) (@aa _ _) no
 |ms o m x as O U=>exact one (ES O.1 U.2.2.1) (@aa _ _) (@aa _ _) (@aa _ _) no
 |gt x k e O hk he=>exact one (EV O.1 hk.1 he.1) (@aa _ _) (@aa _ _) (@aa _ _) no
 |ca j as U=>
  refine one ?_ (@aa _ _) (@aa _ _) (@aa _ _) no;show Tr rn (caE (evA tb as) tb.f[j]?);cases h:tb.f[j]? with
  |none=>show Tr rn nF;exact ba
  |some q=>
   have Y:=ht _ (qa4 h);cases q with
   |fn x n F=>show Tr rn (eCa n F (evA tb as));exact EM Y U.2.2.1
   |_=>show Tr rn nF;exact ba
 |me j o as Z U=>
  refine one ?_ (@aa _ _) (@aa _ _) (@aa _ _) no;show Tr rn (meE (evE tb o) (evA tb as) tb.f[j]?);cases h:tb.f[j]? with
  |none=>show Tr rn nF;exact ba
  |some q=>
   have Y:=ht _ (qa4 h);cases q with
   |me c x n F=>show Tr rn (eMe c n F (evE tb o) (evA tb as));exact EN Y Z.1 U.2.2.1
   |_=>show Tr rn nF;exact ba
 |mk j as U=>
  refine one ?_ (@aa _ _) (@aa _ _) (@aa _ _) no;show Tr rn (mkE (evA tb as) tb.f[j]?);cases h:tb.f[j]? with
  |none=>show Tr rn nF;exact ba
  |some q=>
   have Y:=ht _ (qa4 h);cases q with
   |mk c n F=>show Tr rn (eMk c n F (evA tb as));exact EO Y U.2.2.1
   |_=>show Tr rn nF;exact ba
 |«at» c f o Z=>exact one (EJ Z.1) (@aa _ _) (@aa _ _) (@aa _ _) no
 |ix x y O W=>exact one (EI O.1 W.1) (@aa _ _) (@aa _ _) (@aa _ _) no
 |sl m x lo hi O hl hh=>exact one (EQ O.1 hl.2.2.2.2.1 hh.2.2.2.2.1) (@aa _ _) (@aa _ _) (@aa _ _) no
 |no=>exact one ba (@aa _ _) (@aa _ _) (@aa _ _) (λf h=>by cases h)
 |ls m as U=>exact one (EK U.2.2.1) (@aa _ _) (@aa _ _) (@aa _ _) no
 |tu as U=>exact one (EL U.2.2.1) (@aa _ _) (@aa _ _) (@aa _ _) no
 |dn m t=>exact one ET (@aa _ _) (@aa _ _) (@aa _ _) no
 |il m x O=>exact one (EW O.1) (@aa _ _) (@aa _ _) (@aa _ _) no
 |pp x y O W=>exact one (CN O.1 W.1) (@aa _ _) (@aa _ _) (@aa _ _) no
 |dc m x O=>exact one (EX O.1) (@aa _ _) (@aa _ _) (@aa _ _) no
 |co m src pt it c e hi hc he=>exact one (E6 hi.2.2.2.1 hc.2.1 he.1) (@aa _ _) (@aa _ _) (@aa _ _) no
 |ys=>exact one ba EF (@aa _ _) (@aa _ _) no
 |it x O=>exact one ba (@aa _ _) (@aa _ _) (EY O.1) no
 |rg as U=>exact one ba (@aa _ _) (@aa _ _) (EZ U.2.2.1) no
 |en x O=>exact one ba (@aa _ _) (@aa _ _) (E4 O.1) no
 |nil=>exact one ba (@aa _ _) EG (@aa _ _) no
 |cons x as O U=>exact one ba (@aa _ _) (EH O.1 U.2.2.1) (@aa _ _) (λf h=>by cases h;exact O.1)
theorem yF(ht:∀e∈tb.f,TrN e):∀s:S,TrS (evS tb s):=by
 have O:=tr_E ht;intro s;induction s with
 |nil=>exact CP
 |sq s r Y W=>exact CQ Y W
 |fz i r W=>exact E7 W
 |set i e=>exact CS (O e).1
 |un pt e=>exact Fh (O e).1
 |put x k e=>exact CU (O x).1 (O k).1 (O e).1
 |pts i k e=>exact CW (O k).1 (O e).1
 |fl c f o e=>exact Fc (O o).1 (O e).1
 |fa c f o x e=>exact Fe (O x).1 (O e).1
 |au i o e=>exact Ff (O e).1
 |dr e=>exact E8 (O e).1
 |ap x e=>exact Fi (O x).1 (O e).1
 |aps i e=>exact CY (O e).1
 |cl t x=>exact Fj (O x).1
 |up x e=>exact Fk (O x).1 (O e).1
 |rt e=>exact E9 (O e).1
 |rn=>exact Fa
 |cd c x y U Z=>exact Fb (O c).2.1 U Z
 |fo pt it x U=>exact CT (O it).2.2.2.1 U
 |wh n c x U=>exact vj (O c).2.1 U
end
omit x in
theorem pq{g:Fs}(U:TrS g):TrD (cK m g):=λ{ρ cs a x a' b} E h=>by
 unfold cK at h;have e:(cs.map (rn ρ)).map ς++qb1 (m-(cs.map (rn ρ)).length) ψ=rnS ρ (cs.map ς++qb1 (m-cs.length) ψ):=by simp[rnS,qb4]
 split at h<;>cases h
 .rename_i q;have⟨b1,h1,O,k⟩:=U E q;exact⟨b1,by unfold cK;rw[e,h1];rfl,O,k⟩
 .rename_i q;have⟨b1,h1,O,k⟩:=U E q;exact⟨b1,by unfold cK;rw[e,h1];rfl,O,k⟩
theorem dw{gc:η (Str×Dt)}:∀ds:η Df,∀e∈(av gc ds).f,TrN e
 |[],e,h=>by cases h
 |d::r,e,h=>by
  have O:=dw (gc:=gc) r;rcases qc3.mp h with rfl|h
  .have:TrD (cK d.m (evS (av gc r) d.b)):=pq (yF O d.b);unfold Df.en;cases d.kd<;>exact @this
  .exact O e h
theorem ah{gc:η (Str×Dt)}(ds:η Df):TrD (FF gc ds):=by
 cases ds with
 |nil=>exact λ_ h=>by cases h
 |cons d r=>exact pq (yF (dw r) d.b)
def bD(t:η Df):η En:=(av gc t).f
theorem bDf{t:η Df}:(av gc t).f=bD t:=rfl
theorem gc0:gc[0]?=ς ((PySem.Str.ofString "WIDE":Str),Dt.int 1099511627776):=rfl
def F0:=FF gc t1
theorem u0:bD t1=d0.en F0::bD t0:=rfl
def F1:=FF gc t2
theorem u1:bD t2=d1.en F1::bD t1:=rfl
def F2:=FF gc t3
theorem u2:bD t3=d2.en F2::bD t2:=rfl
def F3:=FF gc t4
theorem u3:bD t4=d3.en F3::bD t3:=rfl
def F4:=FF gc t5
theorem u4:bD t5=d4.en F4::bD t4:=rfl
def F5:=FF gc t6
theorem u5:bD t6=d5.en F5::bD t5:=rfl
def F6:=FF gc t7
theorem u6:bD t7=d6.en F6::bD t6:=rfl
def F7:=FF gc t8
theorem u7:bD t8=d7.en F7::bD t7:=rfl
def F8:=FF gc t9
theorem u8:bD t9=d8.en F8::bD t8:=rfl
def F9:=FF gc t10
theorem u9:bD t10=d9.en F9::bD t9:=rfl
def F10:=FF gc t11
theorem u10:bD t11=d10.en F10::bD t10:=rfl
def F11:=FF gc t12
theorem u11:bD t12=d11.en F11::bD t11:=rfl
def F12:=FF gc t13
theorem u12:bD t13=d12.en F12::bD t12:=rfl
def F13:=FF gc t14
theorem u13:bD t14=d13.en F13::bD t13:=rfl
def F14:=FF gc t15
theorem u14:bD t15=d14.en F14::bD t14:=rfl
def F15:=FF gc t16
theorem u15:bD t16=d15.en F15::bD t15:=rfl
def F16:=FF gc t17
theorem u16:bD t17=d16.en F16::bD t16:=rfl
def F17:=FF gc t18
theorem u17:bD t18=d17.en F17::bD t17:=rfl
def F18:=FF gc t19
theorem u18:bD t19=d18.en F18::bD t18:=rfl
def F19:=FF gc t20
theorem u19:bD t20=d19.en F19::bD t19:=rfl
def F20:=FF gc t21
theorem u20:bD t21=d20.en F20::bD t20:=rfl
def F21:=FF gc t22
theorem u21:bD t22=d21.en F21::bD t21:=rfl
def F22:=FF gc t23
theorem u22:bD t23=d22.en F22::bD t22:=rfl
def F23:=FF gc t24
theorem u23:bD t24=d23.en F23::bD t23:=rfl
def F24:=FF gc t25
theorem u24:bD t25=d24.en F24::bD t24:=rfl
def F25:=FF gc t26
theorem u25:bD t26=d25.en F25::bD t25:=rfl
def F26:=FF gc t27
theorem u26:bD t27=d26.en F26::bD t26:=rfl
def F27:=FF gc t28
theorem u27:bD t28=d27.en F27::bD t27:=rfl
def F28:=FF gc t29
theorem u28:bD t29=d28.en F28::bD t28:=rfl
def F29:=FF gc t30
theorem u29:bD t30=d29.en F29::bD t29:=rfl
def F30:=FF gc t31
theorem u30:bD t31=d30.en F30::bD t30:=rfl
def F31:=FF gc t32
theorem u31:bD t32=d31.en F31::bD t31:=rfl
def F32:=FF gc t33
theorem u32:bD t33=d32.en F32::bD t32:=rfl
def F33:=FF gc t34
theorem u33:bD t34=d33.en F33::bD t33:=rfl
def F34:=FF gc t35
theorem u34:bD t35=d34.en F34::bD t34:=rfl
def F35:=FF gc t36
theorem u35:bD t36=d35.en F35::bD t35:=rfl
def F36:=FF gc t37
theorem u36:bD t37=d36.en F36::bD t36:=rfl
def F37:=FF gc t38
theorem u37:bD t38=d37.en F37::bD t37:=rfl
def F38:=FF gc t39
theorem u38:bD t39=d38.en F38::bD t38:=rfl
def F39:=FF gc t40
theorem u39:bD t40=d39.en F39::bD t39:=rfl
def F40:=FF gc t41
theorem u40:bD t41=d40.en F40::bD t40:=rfl
def F41:=FF gc t42
theorem u41:bD t42=d41.en F41::bD t41:=rfl
def F42:=FF gc t43
theorem u42:bD t43=d42.en F42::bD t42:=rfl
def F43:=FF gc t44
theorem u43:bD t44=d43.en F43::bD t43:=rfl
def F44:=FF gc t45
theorem u44:bD t45=d44.en F44::bD t44:=rfl
def F45:=FF gc t46
theorem u45:bD t46=d45.en F45::bD t45:=rfl
def F46:=FF gc t47
theorem u46:bD t47=d46.en F46::bD t46:=rfl
def F47:=FF gc t48
theorem u47:bD t48=d47.en F47::bD t47:=rfl
def F48:=FF gc t49
theorem u48:bD t49=d48.en F48::bD t48:=rfl
def F49:=FF gc t50
theorem u49:bD t50=d49.en F49::bD t49:=rfl
def F50:=FF gc t51
theorem u50:bD t51=d50.en F50::bD t50:=rfl
def F51:=FF gc t52
theorem u51:bD t52=d51.en F51::bD t51:=rfl
def F52:=FF gc t53
theorem u52:bD t53=d52.en F52::bD t52:=rfl
def F53:=FF gc t54
theorem u53:bD t54=d53.en F53::bD t53:=rfl
def F54:=FF gc t55
theorem u54:bD t55=d54.en F54::bD t54:=rfl
def F55:=FF gc t56
theorem u55:bD t56=d55.en F55::bD t55:=rfl
def F56:=FF gc t57
theorem u56:bD t57=d56.en F56::bD t56:=rfl
def F57:=FF gc t58
theorem u57:bD t58=d57.en F57::bD t57:=rfl
def F58:=FF gc t59
theorem u58:bD t59=d58.en F58::bD t58:=rfl
def F59:=FF gc t60
theorem u59:bD t60=d59.en F59::bD t59:=rfl
def F60:=FF gc t61
theorem u60:bD t61=d60.en F60::bD t60:=rfl
def F61:=FF gc t62
theorem u61:bD t62=d61.en F61::bD t61:=rfl
def F62:=FF gc t63
theorem u62:bD t63=d62.en F62::bD t62:=rfl
def F63:=FF gc t64
theorem u63:bD t64=d63.en F63::bD t63:=rfl
def F64:=FF gc t65
theorem u64:bD t65=d64.en F64::bD t64:=rfl
def F65:=FF gc t66
theorem u65:bD t66=d65.en F65::bD t65:=rfl
def F66:=FF gc t67
theorem u66:bD t67=d66.en F66::bD t66:=rfl
def F67:=FF gc t68
theorem u67:bD t68=d67.en F67::bD t67:=rfl
def F68:=FF gc t69
theorem u68:bD t69=d68.en F68::bD t68:=rfl
def F69:=FF gc t70
theorem u69:bD t70=d69.en F69::bD t69:=rfl
def F70:=FF gc t71
theorem u70:bD t71=d70.en F70::bD t70:=rfl
def F71:=FF gc t72
theorem u71:bD t72=d71.en F71::bD t71:=rfl
def F72:=FF gc t73
theorem u72:bD t73=d72.en F72::bD t72:=rfl
def qq:=(by and_intros<;>(show cK _ (evS (av _ _) _)=_;rwa[L2.vN0,L2.vN1,L2.vN2,L2.vN3,L2.vN4,L2.vN5,L2.vN6,L2.vN7,L2.vN8,L2.vN9,L2.vN10,L2.vN11,L2.nJ,L2.CB,L2.rW,L2.sL,L2.xLit,L2.xAdd,L2.xSub,L2.xMul,L2.xMod,L2.xDiv,L2.xIx,L2.tsE,L2.tsL,L2.tsN,L2.tsG,L2.eLn,L2.rG1,L2.aT0,L2.mE0,L2.cO0,L2.cR0,L2.sLb,L2.bDf,L2.caE,L2.meE,L2.mkE,L2.gcE,L2.zk0,L2.zk1,L2.zk2,L2.zk3,L2.zk4,L2.zk5,L2.zk6,L2.zk7,L2.zk8,L2.zk9,L2.zk10,L2.zk11,L2.zk12,L2.zk13,L2.zk14,L2.zk15,L2.zk16,L2.zk17,L2.zk18,L2.zk19,L2.zk20,L2.zk21,L2.zk22,L2.zk23,L2.zk24,L2.zk25,L2.zk26,L2.zk27,L2.zk28,L2.zk29,L2.zk30,L2.zk31,L2.zk32,L2.zk33,L2.zk34,L2.zk35,L2.zk36,L2.zk37,L2.zk38,L2.zk39,L2.zk40,L2.zk41,L2.zk42,L2.zk43,L2.zk44,L2.zk45,L2.zk46,L2.zk47,L2.zk48,L2.zk49,L2.zk50,L2.zk51,L2.zk52,L2.zk53,L2.zk54,L2.zk55,L2.zk56,L2.zk57,L2.zk58,L2.zk59,L2.Df.en,L2.io,L2.uW,L2.kI,L2.kS,L2.A1,L2.A2,L2.A3,L2.A4,L2.A5,L2.gc0,L2.d0,L2.d1,L2.d2,L2.d3,L2.d4,L2.d5,L2.d6,L2.d7,L2.d8,L2.d9,L2.d10,L2.d11,L2.d12,L2.d13,L2.d14,L2.d15,L2.d16,L2.d17,L2.d18,L2.d19,L2.d20,L2.d21,L2.d22,L2.d23,L2.d24,L2.d25,L2.d26,L2.d27,L2.d28,L2.d29,L2.d30,L2.d31,L2.d32,L2.d33,L2.d34,L2.d35,L2.d36,L2.d37,L2.d38,L2.d39,L2.d40,L2.d41,L2.d42,L2.d43,L2.d44,L2.d45,L2.d46,L2.d47,L2.d48,L2.d49,L2.d50,L2.d51,L2.d52,L2.d53,L2.d54,L2.d55,L2.d56,L2.d57,L2.d58,L2.d59,L2.d60,L2.d61,L2.d62,L2.d63,L2.d64,L2.d65,L2.d66,L2.d67,L2.d68,L2.d69,L2.d70,L2.d71,L2.d72,L2.u0,L2.u1,L2.u2,L2.u3,L2.u4,L2.u5,L2.u6,L2.u7,L2.u8,L2.u9,L2.u10,L2.u11,L2.u12,L2.u13,L2.u14,L2.u15,L2.u16,L2.u17,L2.u18,L2.u19,L2.u20,L2.u21,L2.u22,L2.u23,L2.u24,L2.u25,L2.u26,L2.u27,L2.u28,L2.u29,L2.u30,L2.u31,L2.u32,L2.u33,L2.u34,L2.u35,L2.u36,L2.u37,L2.u38,L2.u39,L2.u40,L2.u41,L2.u42,L2.u43,L2.u44,L2.u45,L2.u46,L2.u47,L2.u48,L2.u49,L2.u50,L2.u51,L2.u52,L2.u53,L2.u54,L2.u55,L2.u56,L2.u57,L2.u58,L2.u59,L2.u60,L2.u61,L2.u62,L2.u63,L2.u64,L2.u65,L2.u66,L2.u67,L2.u68,L2.u69,L2.u70,L2.u71,L2.u72,qd2,qf3];rfl):F0=_/\F2=_/\F4=_/\F8=_/\F10=_/\F11=_/\F15=_/\F16=_/\F18=_/\F19=_/\F20=_)
def q0:=qq.1
def q2:=qq.2.1
def q4:=qq.2.2.1
def q8:=qq.2.2.2.1
def q10:=qq.2.2.2.2.1
def q11:=qq.2.2.2.2.2.1
def q15:=qq.2.2.2.2.2.2.1
def q16:=qq.2.2.2.2.2.2.2.1
def q18:=qq.2.2.2.2.2.2.2.2.1
def q19:=qq.2.2.2.2.2.2.2.2.2.1
def q20:=qq.2.2.2.2.2.2.2.2.2.2
noncomputable def clV(n:Nat):CV->Bool
 |.ref i=>decide (i<n)
 |_=>θ
noncomputable def clO(n:Nat):CO->Bool
 |.e l=>l.all (clV n)
 |.t l=>l.all (clV n)
 |.dK l=>l.all λp=>clV n p.2
 |.dT l=>l.all λp=>clV n p.2
 |.ins _ l=>l.all (clV n)
def Cl(cs:CH):Prop:=cs.all (clO cs.length)=θ
structure At(ρ:Nat->Nat)(cs b:CH):Prop where
 inj:∀i j,i<cs.length->j<cs.length->ρ i=ρ j->i=j
 get:∀{i o},cs[i]?=ς o->b[ρ i]?=ς (rnO ρ o)
noncomputable def hat(ρ:Nat->Nat)(n m:Nat):Nat->Nat:=λi=>if i<n then ρ i else m+(i-n)
variable{cs':CH}
section
variable{ρ ρ' σ:Nat->Nat}{a b cs ds:CH}{n:Nat}
theorem vn{c:CV}(h:clV n c=θ)(e:∀i,i<n->ρ i=ρ' i):rn ρ c=rn ρ' c:=by
 cases c with
 |ref i=>simp only[rn,e i (by simpa[clV] using h)]
 |_=>rfl
theorem pr{l:η CV}(h:l.all (clV n)=θ)(e:∀i,i<n->ρ i=ρ' i):l.map (rn ρ)=l.map (rn ρ'):=qg3 λc hc=>vn (qc0.mp h c hc) e
theorem CZ{o:CO}(h:clO n o=θ)(e:∀i,i<n->ρ i=ρ' i):rnO ρ o=rnO ρ' o:=by
 cases o with
 |e l|t l|ins c l=>rwa[rnO,pr h e]
 |dK l|dT l=>rwa[rnO,rnP];rw[qg3 λp hp=>by rw[vn (qc0.mp h p hp) e]]
theorem Fl{c:CV}:rn ρ (rn σ c)=rn (λi=>ρ (σ i)) c:=by cases c<;>rfl
theorem pw{o:CO}:rnO ρ (rnO σ o)=rnO (λi=>ρ (σ i)) o:=by cases o<;>rwa[rnO,rnP,qd1,qb4,Fl]
theorem At.lt(h:At ρ cs b){i:Nat}(hi:i<cs.length):ρ i<b.length:=ai (h.get (gQ hi))
theorem At.em(h:At ρ cs b)(hc:Cl cs):Em (hat ρ cs.length b.length) cs b:=by
 have U:∀i,i<cs.length->hat ρ cs.length b.length i=ρ i:=λi hi=>if_pos hi
 have e2:∀i,cs.length<=i->hat ρ cs.length b.length i=b.length+(i-cs.length):=λi hi=>if_neg Θ
 refine⟨λi j e=>?_,λ{i o} hi=>?_,λk=>by rw[e2 _ Θ];lia⟩
 .rcases qi4 i cs.length with hi|hi<;>rcases qi4 j cs.length with O|O
  .rw[U i hi,U j O]at e;exact h.inj i j hi O e
  .rw[U i hi,e2 j O]at e;have:=h.lt hi;lia
  .rw[e2 i hi,U j O]at e;have:=h.lt O;lia
  .rw[e2 i hi,e2 j O]at e;lia
 .have hl:=ai hi;rw[U i hl,h.get hi,CZ (qc0.mp hc o (qa4 hi)) λk W=>(U k W).symm]
theorem At.comp(h:Em ρ a b)(k:At σ ds a):At (λi=>ρ (σ i)) ds b:=⟨λi j hi O e=>k.inj i j hi O (h.inj _ _ e),λhi=>by rw[h.get (k.get hi),pw]⟩
structure Fr(ρ:Nat->Nat)(n:Nat)(b b':CH):Prop where
 le:b.length<=b'.length
 kp:∀j,j<b.length->(∀i,i<n->ρ i≠j)->b'[j]?=b[j]?
def Sb(ρ:Nat->Nat)(n:Nat)(b:CH)(ρ':Nat->Nat)(n':Nat):Prop:=∀i,i<n'->(∃k,k<n/\ρ' i=ρ k)\/b.length<=ρ' i
theorem Em.fr(h:At ρ cs b)(hc:Cl cs)(E:Em (hat ρ cs.length b.length) a b')(k:Kp (hat ρ cs.length b.length) b b')(hl:cs.length<=a.length):Fr ρ cs.length b b':=by
 have O:=E.nw 0;have:hat ρ cs.length b.length (a.length+0)=b.length+(a.length-cs.length):=if_neg Θ;refine⟨Θ,λj U hi=>k j λi=>?_⟩;unfold hat
 split
 .exact hi i (by assumption)
 .lia
def Rn(F:Fd)(args:η CV)(cs:CH)(d:Dt)(ds:CH):Prop:=∀ ρ b,At ρ cs b->∃ ρ' b',F (rnA ρ args) b=ς (.g d,b')/\At ρ' ds b'/\ρ' 0=ρ 0/\Fr ρ cs.length b b'/\Sb ρ cs.length b ρ' ds.length
theorem At.go{F:Fd}{args:η CV}{x:CV}(W:TrD F)(h:At ρ cs b)(hc:Cl cs)(O:args.all (clV cs.length)=θ)(Y:F args cs=ς (x,cs')):∃b',F (rnA ρ args) b=ς (rn (hat ρ cs.length b.length) x,b')/\Em (hat ρ cs.length b.length) cs' b'/\Kp (hat ρ cs.length b.length) b b':=by
 have⟨b',h1,h2,U⟩:=W (h.em hc) Y;have e:rnA (hat ρ cs.length b.length) args=rnA ρ args:=pr O λi hi=>if_pos hi
 rw[e]at h1;exact⟨b',h1,h2,U⟩
theorem Rn.of{F:Fd}{args:η CV}{d:Dt}(Z:TrD F)(hc:Cl cs)(O:args.all (clV cs.length)=θ)(W:F args cs=ς (.g d,cs'))(hl:cs.length<=cs'.length)(hs:At σ ds cs')(Y:σ 0=0)(U:0<cs.length):Rn F args cs d ds:=λρ b h=>by
 have⟨b',h1,E,k⟩:=h.go Z hc O W;refine⟨_,b',h1,At.comp E hs,by show hat _ _ _ (σ 0)=_;rw[Y];exact if_pos U,Em.fr h hc E k hl,λi hi=>?_⟩;show(∃j,j<cs.length/\hat ρ cs.length b.length (σ i)=ρ j)\/_<=hat ρ cs.length b.length (σ i);unfold hat
 split
 .exact .inl ⟨σ i,by assumption,rfl⟩
 .exact .inr Θ
theorem zX{c:CV}:rn (λi=>i) c=c:=by cases c<;>rfl
theorem C0{o:CO}:rnO (λi=>i) o=o:=by
 have h1:∀l:η CV,l.map (rn λi=>i)=l:=λl=>by
  have:(rn λi=>i)=id:=funext λc=>zX
  rw[this,List.map_id]
 cases o<;>rwa[rnO,rnP,h1,zX]<;>simp
theorem At.same:At (λi=>i) cs cs:=⟨λ_ _ _ _ e=>e,λh=>by rw[C0];exact h⟩
theorem Fr.at{n:Nat}(f:Fr ρ n b b')(h:At σ ds b)(U:∀i j,i<n->j<ds.length->ρ i≠σ j):At σ ds b':=⟨h.inj,λ{j o} O=>by have hl:=ai O;rw[f.kp _ (h.lt hl) λi hi=>U i j hi hl];exact h.get O⟩
end
variable{ds:η Dt}
section
variable{pt:Pt}{ft:FM Bool}{fe:Fg}{δ:Sl}{ch:CH}{α:Type}
theorem bH{f g:α->Dt}:∀{l:η α},(∀x∈l,∃O,bnd pt (f x) δ=ς O/\ft O ch=ς (θ,ch)/\fe O ch=ς (.g (g x),ch))->aE (bnd pt) ft fe δ (l.map f) ch=ς (l.map λx=>.g (g x),ch)
 |[],_=>rfl
 |x::l,h=>by
  have⟨O,h1,h2,W⟩:=h x Ξ;have U:=bH (l:=l) λy Y=>h y (by simp[Y])
  rwa[qa3,aE,h1,qa0,h2,if_true,W,CV.sol,U,qa9]
theorem cX{f g:α->Dt}{p:α->Bool}:∀{l:η α},(∀x∈l,∃O,bnd pt (f x) δ=ς O/\ft O ch=ς (p x,ch)/\(p x=θ->fe O ch=ς (.g (g x),ch)))->aE (bnd pt) ft fe δ (l.map f) ch=ς ((l.filter p).map λx=>.g (g x),ch)
 |[],_=>rfl
 |x::l,h=>by
  have⟨O,h1,h2,W⟩:=h x Ξ;have U:=cX (l:=l) λy Y=>h y (by simp[Y])
  cases hp:p x with
  |true=>rwa[qa3,aE,h1,qa0,h2,hp,if_true,W hp,CV.sol,U,qa9,List.filter_cons_of_pos hp]
  |false=>have:List.filter p (x::l)=List.filter p l:=List.filter_cons_of_neg (by simp[hp]);rwa[qa3,aE,h1,qa0,h2,hp,qe9,if_false,U,this]
theorem px{f:α->Dt}{P:Dt->Prop}:∀{l:η α},(∀x∈l,∃O d,bnd pt (f x) δ=ς O/\ft O ch=ς (θ,ch)/\fe O ch=ς (.g d,ch)/\P d)->∃ds:η Dt,aE (bnd pt) ft fe δ (l.map f) ch=ς (ds.map .g,ch)/\(∀d∈ds,P d)/\ds.length=l.length
 |[],_=>⟨[],rfl,Ξ,rfl⟩
 |x::l,h=>by
  have⟨O,d,h1,h2,U,hp⟩:=h x Ξ;have⟨ds,h4,Z,Y⟩:=px (l:=l) λy W=>h y (by simp[W])
  exact⟨d::ds,by rwa[qa3,aE,h1,qa0,h2,if_true,U,CV.sol,h4,qa9],‹⟨hp,Z⟩›,by simp[Y]⟩
theorem cY{β γ:Type}{f:α->Dt}{g:β->Dt}{h:β->γ}{h':α->γ}{Q:β->Prop}:∀{l:η α},(∀x∈l,∃O y,bnd pt (f x) δ=ς O/\ft O ch=ς (θ,ch)/\fe O ch=ς (.g (g y),ch)/\Q y/\h y=h' x)->∃ys:η β,aE (bnd pt) ft fe δ (l.map f) ch=ς ((ys.map g).map .g,ch)/\(∀y∈ys,Q y)/\ys.map h=l.map h'
 |[],_=>⟨[],rfl,Ξ,rfl⟩
 |x::l,U=>by
  have⟨O,y,h1,h2,Z,Y,W⟩:=U x Ξ;have⟨ys,h4,h5,h6⟩:=cY (l:=l) λz hz=>U z (by simp[hz])
  exact⟨y::ys,by rwa[qa3,aE,h1,qa0,h2,if_true,Z,CV.sol,h4,qa9],λz hz=>by rcases qc3.mp hz with rfl|hz;exact Y;exact h5 z hz,by simp[W,h6]⟩
theorem vo{m:Md}:finL m (ds.map .g) ch=fin m ch (.e ds):=by unfold finL;rw[bC]
theorem vq{g:α->Dt}{l:η α}:dats (l.map λx=>.g (g x))=ς (l.map g):=by
 have:(l.map λx=>CV.g (g x))=(l.map g).map .g:=by simp
 rw[this,bC]
theorem bZ{m:Md}{g:α->Dt}{l:η α}:finL m (l.map λx=>.g (g x)) ch=fin m ch (.e (l.map g)):=by unfold finL;rw[vq]
end
variable{δ0:Sl}{fe:Fg}
section
variable{m:Md}{g:Dt->Dt->ζ T}{fa fb f:Fg}{δ δ':Sl}{ch ch1 ch2:CH}{x y c:CV}{dx dy:Dt}{t:T}{g1 g2:Fs}{o:Og}{i n:Nat}
theorem pz(U:fa δ ch=ς (x,ch1))(hb:fb δ ch1=ς (y,ch2))(W:vw ch2 x=ς dx)(O:vw ch2 y=ς dy)(Y:g dx dy=ς t):e2 m g fa fb δ ch=fin m ch2 t:=by unfold e2;rw[U,qa0,hb,qa0];dsimp only;rw[W,qa0,O,qa0,Y];rfl
theorem yG{a b:η Dt}(h:a.length+b.length<=qa5):oAdd.g (.e a) (.e b)=ς (.e (a++b)):=by show orO eG ip _ _=_;unfold orO eG;rwa[h,if_true]
theorem dX(h:f δ ch=ς (c,ch1))(O:c.kp=θ):iS i f δ ch=ς (.nx (δ.set i (ς c)) ch1):=by unfold iS;rw[h,qa0];dsimp only;rw[if_pos O]
theorem jH(h:f δ ch=ς (c,ch1))(O:c.sol=θ):sRt f δ ch=ς (.rt c ch1):=by unfold sRt;rw[h,qa0];dsimp only;rw[if_pos O]
theorem aF(h1:g1 δ ch=ς (.nx δ' ch1))(h2:g2 δ' ch1=ς o):aZ g1 g2 δ ch=ς o:=by unfold aZ;rw[h1];exact h2
theorem jI(h1:g1 δ ch=ς (.rt c ch1)):aZ g1 g2 δ ch=ς (.rt c ch1):=by unfold aZ;rw[h1];rfl
theorem C1{pt:Pt}{g:Fs}{d:Dt}{r:η Dt}(h1:bnd pt d δ=ς δ')(h2:g δ' ch=ς (.rt c ch1)):bM (bnd pt) g (d::r) δ ch=ς (.rt c ch1):=by show(bnd pt d δ).bind _=_;rw[h1,qa0,h2];rfl
theorem br{pt:Pt}{g:Fs}{d:Dt}{r:η Dt}{δ2:Sl}(h1:bnd pt d δ=ς δ')(h2:g δ' ch=ς (.nx δ2 ch1)):bM (bnd pt) g (d::r) δ ch=bM (bnd pt) g r δ2 ch1:=by show(bnd pt d δ).bind _=_;rw[h1,qa0,h2];rfl
theorem aH{pt:Pt}{g:Fs}(h1:fi δ ch=ς (ds,ch1))(h2:bM (bnd pt) g ds δ ch1=ς o):rA fi (bnd pt) g δ ch=ς o:=by unfold rA;rw[h1];exact h2
theorem rng1{j:Int}(h:cU j=θ):rng 1 [j]=ς (ay 0 j.toNat):=by rwa[rng,h,if_true]
theorem C3{fs:FM (η CV)}{j:Int}(h:fs δ ch=ς ([.g (.int j)],ch1))(hb:cU j=θ):iR 1 fs δ ch=ς (ay 0 j.toNat,ch1):=by unfold iR;rw[h];rwa[qa0,gp,qa9,rng1 hb]
theorem eT{fs:FM (η CV)}(h:fs δ ch=ς ([.g (.int j)],ch1))(hb:cU (j:Int)=θ):iR 1 fs δ ch=ς (ay 0 j,ch1):=by have e:=C3 h hb;rw[ql0]at e;exact e
theorem C4{g:Dt->η Dt->ζ T}{fs:FM (η CV)}{s:Str}{d:Dt}(U:fa δ ch=ς (.g (.str s),ch))(hs:fs δ ch=ς ([.g d],ch))(O:g (.str s) [d]=ς t):eMt m g fa fs δ ch=fin m ch t:=by unfold eMt;rw[U,qa0];dsimp only;rw[hs,qa0];show(g (.str s) [d]).bind _=_;rw[O];rfl
theorem b9(h:f δ ch=ς (c,ch1)):aCn f aNl δ ch=ς ([c],ch1):=by unfold aCn;rw[h];rfl
theorem dY{pt:Pt}{ft:FM Bool}{es:η Dt}(hi:fi δ ch=ς (ds,ch))(O:gC src δ=δ0)(h:aE (bnd pt) ft fe δ0 ds ch=ς (es.map .g,ch))(hl:es.length<=qa5):eCo .v src fi (bnd pt) ft fe δ ch=ς (.g (.e es),ch):=by unfold eCo;rw[hi,qa0,O];dsimp only;rw[h,qa0];dsimp only;rw[if_pos (by rw[qa6];exact hl)];unfold finL;rw[bC];rfl
theorem fX{g:Fs}(h:g (cs.map ς++qb1 (n-cs.length) ψ) ch=ς (.rt c ch1)):cK n g cs ch=ς (c,ch1):=by unfold cK;rw[h]
theorem vt{g:Fs}(h:g (cs.map ς++qb1 (n-cs.length) ψ) ch=ς (.nx δ' ch1)):cK n g cs ch=ς (.g .non,ch1):=by unfold cK;rw[h]
end
variable{cs1:CH}
section
variable{F:Fd}{ρ ρ1 ρ2:Nat->Nat}{cs b b1 b2:CH}{args:η CV}{d:Dt}{n n1 n2:Nat}
theorem At.pure(hF:TrD F)(h:At ρ cs b)(hc:Cl cs)(W:args.all (clV cs.length)=θ)(Z:F args cs=ς (.g d,cs)):F (rnA ρ args) b=ς (.g d,b):=by
 have⟨b',h1,E,K⟩:=h.go hF hc W Z;have Y:=E.nw 0;have U:hat ρ cs.length b.length (cs.length+0)=b.length+0:=by unfold hat;rw[if_neg Θ];lia
 rw[U]at Y
 have:b'=b:=by
  refine qn5 λj=>?_
  by_cases O:∃i,hat ρ cs.length b.length i=j
  .have⟨i,rfl⟩:=O;rcases qi4 i cs.length with hi|hi
   .rw[E.get (gQ hi),(h.em hc).get (gQ hi)]
   .have:hat ρ cs.length b.length i=b.length+(i-cs.length):=if_neg Θ;rw[this,qg4 Θ,qg4 Θ]
  .exact K j λi e=>O ⟨i,e⟩
 rw[this]at h1;exact h1
theorem Fr.trans(f:Fr ρ n b b1)(s:Sb ρ n b ρ1 n1)(g:Fr ρ1 n1 b1 b2):Fr ρ n b b2:=⟨qd7 f.le g.le,λj O hi=>by
 rw[g.kp j (qc9 O f.le) λi h e=>?_,f.kp j O hi];rcases s i h with ⟨k,U,q⟩|q
 .exact hi k U (q.symm.trans e)
 .lia⟩
theorem Sb.trans(f:Fr ρ n b b1)(s:Sb ρ n b ρ1 n1)(t:Sb ρ1 n1 b1 ρ2 n2):Sb ρ n b ρ2 n2:=λi hi=>by
 rcases t i hi with ⟨k,O,q⟩|q
 .rw[q];exact s k O
 .exact .inr (qd7 f.le q)
structure Mv(ρ:Nat->Nat)(cs b:CH)(ρ':Nat->Nat)(cs' b':CH):Prop where
 at_:At ρ' cs' b'
 zero:ρ' 0=ρ 0
 fr:Fr ρ cs.length b b'
 sb:Sb ρ cs.length b ρ' cs'.length
theorem Mv.trans{O:CH}(h:Mv ρ cs b ρ1 cs1 b1)(k:Mv ρ1 cs1 b1 ρ2 O b2):Mv ρ cs b ρ2 O b2:=⟨k.at_,k.zero.trans h.zero,h.fr.trans h.sb k.fr,h.sb.trans h.fr k.sb⟩
theorem Rn.mv(r:Rn F args cs d cs1)(h:At ρ cs b):∃ ρ' b',F (rnA ρ args) b=ς (.g d,b')/\Mv ρ cs b ρ' cs1 b':=let ⟨ρ',b',h1,h2,h3,h4,h5⟩:=r ρ b h;⟨ρ',b',h1,h2,h3,h4,h5⟩
end
section
variable{F:Fd}{ch a a':CH}{args:η CV}{x:CV}
theorem pA:Em (ch.length + ·) a (ch++a.map (rnO (ch.length + ·))):=by refine⟨λi j h=>Nat.add_left_cancel h,λ{i o} h=>?_,λk=>by simp;lia⟩;rw[gR Θ,qg7,qa8,h];rfl
theorem yH(E:Em (ch.length + ·) a' b')(K:Kp (ch.length + ·) (ch++a.map (rnO (ch.length + ·))) b'):b'=ch++a'.map (rnO (ch.length + ·)):=by
 have hl:ch.length+(a'.length+0)=b'.length+0:=E.nw 0;refine qn5 λj=>?_
 rcases qi4 j ch.length with O|O
 .rw[K j λi e=>by have e:ch.length+i=j:=e;lia,gL O,gL O]
 .have⟨i,rfl⟩:=Nat.exists_eq_add_of_le O;rw[gR Θ,qg7,qa8];rcases qi4 i a'.length with hi|hi
  .rw[gQ hi];exact E.get (gQ hi)
  .rw[qg4 hi,qg4 Θ];rfl
theorem TrD.tail(O:TrD F)(h:F args a=ς (x,a')):F (rnA (ch.length + ·) args) (ch++a.map (rnO (ch.length + ·)))=ς (rn (ch.length + ·) x,ch++a'.map (rnO (ch.length + ·))):=by have⟨b',h1,E,K⟩:=O pA h;rw[h1,yH E K]
theorem gG{c n:Nat}{fs:FM (η CV)}(U:TrD F)(hs:fs δ ch=ς (ds.map .g,ch))(O:n=ds.length+1)(h:F (.ref 0::ds.map .g) [.ins c []]=ς (.g .non,a'))(hl:0<a'.length):eMk c n F fs δ ch=ς (.ref ch.length,ch++a'.map (rnO (ch.length + ·))):=by
 have e:=U.tail (ch:=ch) h;have W:rnA (ch.length + ·) (.ref 0::ds.map .g)=.ref ch.length::ds.map .g:=by simp[rn,qb4]
 have e2:ch++[CO.ins c []].map (rnO (ch.length + ·))=ch++[.ins c []]:=rfl;rw[W,e2]at e;unfold eMk kCa;rw[hs,qa0];dsimp only;rw[if_pos ⟨by simp[O],by simp[CV.old]⟩,e,qa0];rwa[rn];rw[if_pos (by simp;lia)]
end
inductive An where
 |v (n:Nat) (x:CV×CH)|o (n:Nat) (x:Og)|t (n:Nat) (x:T)|c (n:Nat) (x:CV)|p (n:Nat) (x:CO)|d (n:Nat) (x:Dt)|h (n:Nat) (x:CO)
abbrev Qs:=η An×η Prop
def All:η Prop->Prop
 |[]=>True
 |p::l=>p/\All l
noncomputable def kK{α:Type}(f:An->ζ (Nat×α))(m:Nat->α->An)(v:ζ α):Qs->ζ (α×Qs)
 |(a::g,L)=>(match f a with
  |some (0,x)=>ς (x,g,(v=ς x)::L)
  |some (n+1,x)=>v.map λy=>(y,m n x::g,L)
  |none=>v.map λy=>(y,a::g,L))
 |s=>v.map λy=>(y,s)
theorem cb{α:Type}{f:An->ζ (Nat×α)}{m:Nat->α->An}{v:ζ α}{s s':Qs}{r:α}(h:kK f m v s=ς (r,s'))(a:All s'.2):v=ς r/\All s.2:=by
 obtain⟨_|⟨x,g⟩,L⟩:=s
 .have⟨y,h1,h2⟩:=mS h;cases h2;exact⟨h1,a⟩
 .unfold kK at h;dsimp only at h;split at h
  .cases h;exact a
  .have⟨y,h1,h2⟩:=mS h;cases h2;exact⟨h1,a⟩
  .have⟨y,h1,h2⟩:=mS h;cases h2;exact⟨h1,a⟩
abbrev kA:=kK (λa=>match a with|.v n x=>ς (n,x)|_=>ψ) An.v
abbrev kO:=kK (λa=>match a with|.o n x=>ς (n,x)|_=>ψ) An.o
abbrev kT:=kK (λa=>match a with|.t n x=>ς (n,x)|_=>ψ) An.t
abbrev kC:=kK (λa=>match a with|.c n x=>ς (n,x)|_=>ψ) An.c
abbrev kD:=kK (λa=>match a with|.d n x=>ς (n,x)|_=>ψ) An.d
abbrev kH:=kK (λa=>match a with|.h n x=>ς (n,x)|_=>ψ) An.h
abbrev kP:=kK (λa=>match a with|.p n x=>ς (n,x)|_=>ψ) An.p
abbrev QM(α:Type):=Sl->CH->Qs->ζ ((α×CH)×Qs)
def Snd{α:Type}(x:QM α)(f:FM α):Prop:=∀ δ ch s r s',x δ ch s=ς (r,s')->All s'.2->f δ ch=ς r/\All s.2
def Sns(x:Sl->CH->Qs->ζ (Og×Qs))(f:Fs):Prop:=∀ δ ch s r s',x δ ch s=ς (r,s')->All s'.2->f δ ch=ς r/\All s.2
noncomputable def qP{α:Type}(f:FM α):QM α:=λδ ch s=>(f δ ch).map λy=>(y,s)
def qW(f:Fg):QM CV:=λδ ch s=>kA (f δ ch) s
def qT(v:CH->ζ T)(m:Md):QM CV:=λ_ ch s=>(kT (v ch) s).bind λp=>(fin m ch p.1).map λy=>(y,p.2)
def qC(v:CH->ζ CV):QM CV:=λ_ ch s=>(kC (v ch) s).map λp=>((p.1,ch),p.2)
theorem Snd.to{α:Type}{x:QM α}{f g:FM α}(h:Snd x f)(e:f=g):Snd x g:=e▸h
theorem Snd.p{α:Type}{f:FM α}:Snd (qP f) f:=λ_ _ _ _ _ h a=>by have⟨y,h1,h2⟩:=mS h;cases h2;exact⟨h1,a⟩
theorem Snd.w{f:Fg}:Snd (qW f) f:=λ_ _ _ _ _ h a=>cb h a
theorem Snd.t{v:CH->ζ T}{m:Md}:Snd (qT v m) (λ_ ch=>(v ch).bind (fin m ch)):=λδ ch s r s' h a=>by have⟨p,h1,h⟩:=bS h;have⟨y,h2,h⟩:=mS h;cases h;have⟨O,U⟩:=cb h1 a;exact⟨by show(v ch).bind _=_;rw[O];exact h2,U⟩
theorem Snd.c{v:CH->ζ CV}:Snd (qC v) (λ_ ch=>(v ch).map λc=>(c,ch)):=λδ ch s r s' h a=>by have⟨p,h1,h⟩:=mS h;cases h;have⟨U,O⟩:=cb h1 a;exact⟨by show(v ch).map _=_;rw[U];rfl,O⟩
def qV{α:Type}(c:CV)(k:Dt->QM α):QM α:=λδ ch s=>(match c with
 |.ref i=>(kD (vw ch (.ref i)) s).bind λp=>k p.1 δ ch p.2
 |c=>(vw ch c).bind λd=>k d δ ch s)
theorem Snd.vw{α:Type}{c:CV}{k:Dt->QM α}{j:Dt->FM α}(h:∀d,Snd (k d) (j d)):Snd (qV c k) (λδ ch=>(vw ch c).bind λd=>j d δ ch):=λδ ch s r s' e a=>by
 unfold qV at e;split at e
 .have⟨d,h1,h2⟩:=bS e;have⟨O,U⟩:=h _ _ _ _ _ _ h2 a;have⟨Y,W⟩:=cb h1 U;exact⟨by show(L2.vw ch _).bind _=_;rw[Y];exact O,W⟩
 .have⟨d,h1,h2⟩:=bS e;have⟨O,U⟩:=h d _ _ _ _ _ h2 a;exact⟨by show(L2.vw ch _).bind _=_;rw[h1];exact O,U⟩
def qVs{α:Type}:η CV->(η Dt->QM α)->QM α
 |[],k=>k []
 |c::cs,k=>qV c λd=>qVs cs λds=>k (d::ds)
theorem Snd.vws{α:Type}:∀{cs:η CV}{k:η Dt->QM α}{j:η Dt->FM α},(∀d,Snd (k d) (j d))->Snd (qVs cs k) (λδ ch=>(vws ch cs).bind λd=>j d δ ch)
 |[],k,j,h=>(h []).to rfl
 | c::cs,k,j,h=>(Snd.vw (j:=λd=>_) λd=>Snd.vws (cs:=cs) (j:=λds=>j (d::ds)) λds=>h (d::ds)).to (by
     funext δ ch;show _=((L2.vw ch c).bind λd=>(L2.vws ch cs).map (d::·)).bind _;cases L2.vw ch c with
     |none=>rfl
     |some d=>cases L2.vws ch cs<;>rfl)
noncomputable def qB{α β:Type}(x:QM α)(k:α->QM β):QM β:=λδ ch s=>(x δ ch s).bind λp=>k p.1.1 δ p.1.2 p.2
theorem Snd.b{α β:Type}{x:QM α}{f:FM α}{k:α->QM β}{j:α->FM β}(h:Snd x f)(O:∀c,Snd (k c) (j c)):Snd (qB x k) (λδ ch=>(f δ ch).bind λp=>j p.1 δ p.2):=λδ ch s r s' e a=>by have⟨p,h1,h2⟩:=bS e;have⟨U,Z⟩:=O _ _ _ _ _ _ h2 a;have⟨Y,W⟩:=h _ _ _ _ _ h1 Z;exact⟨by show(f δ ch).bind _=_;rw[Y];exact U,W⟩
omit x in
theorem Snd.i{α:Type}{c:Prop}[Decidable c]{x:QM α}{f:FM α}(h:c->Snd x f):Snd (λδ ch s=>if c then x δ ch s else ψ) (λδ ch=>if c then f δ ch else ψ):=λδ ch s r s' e a=>by
 split at e
 .rename_i q;have⟨U,O⟩:=h q _ _ _ _ _ e a;exact⟨by show(if c then _ else _)=_;rw[if_pos q];exact U,O⟩
 .cases e
def caX(x:QM (η CV))(f:FM (η CV)):ζ En->QM CV
 |some (.fn _ n F)=>qB x λcs=>λδ ch s=>if cs.length=n/\cs.all CV.old=θ then qW (λ_ ch=>F cs ch) δ ch s else ψ
 |o=>qW (caE f o)
def meX(x:QM CV)(f:Fg)(y:QM (η CV))(g:FM (η CV)):ζ En->QM CV
 | some (.me c _ n F)=>qB x λx=>λδ ch s=>(match x with
     |.ref i=>(kH ch[i]? s).bind λp=>(match p.1 with
      |.ins O _=>if O=c then qB y (λcs=>λδ ch s=>if(CV.ref i::cs).length=n/\(CV.ref i::cs).all CV.old=θ then qW (λ_ ch=>F (.ref i::cs) ch) δ ch s else ψ) δ ch p.2 else ψ
      |_=>ψ)
     |_=>ψ)
 |o=>qW (meE f g o)
mutual
def xE(tb:Tb):E->QM CV
 |.b2 o m a b=>qB (xE tb a) λc=>qB (xE tb b) λd=>qV c λx=>qV d λy=>qT (λ_=>o.g x y) m
 |.cd t a b=>qB (xT tb t) λc=>if c then xE tb a else xE tb b
 |.bn o m as=>qB (xA tb as) λcs=>qVs cs λds=>qT (λ_=>o.g ds) m
 |.ii c a=>qB (xE tb a) λd=>qP λ_ ch=>(vw ch d).bind λd=>ς (.g (.bl (cS c d)),ch)
 |.gt a k e=>qB (xE tb a) λx=>λδ ch s=>if ib ch x then qB (xE tb k) (λy=>qB (xE tb e) λz=>qV y λk=>λδ ch s=>if z.sol then qC (λch=>getV ch x k z) δ ch s else ψ) δ ch s else ψ
 |.an a b=>qB (xE tb a) λc=>λδ ch s=>(dN c).bind λw=>if w then xE tb b δ ch s else ς ((.g (.bl ξ),ch),s)
 |.ca j as=>caX (xA tb as) (evA tb as) tb.f[j]?
 |.me j o as=>meX (xE tb o) (evE tb o) (xA tb as) (evA tb as) tb.f[j]?
 |.at c f o=>qB (xE tb o) λx=>λδ ch s=>(match x with
  |.ref i=>(kH ch[i]? s).bind λp=>(match p.1 with
   |.ins c' l=>if c'=c then(l[f]?).map λx=>((x,ch),p.2)else ψ
   |_=>ψ)
  |_=>ψ)
 |.ix a b=>qB (xE tb a) λc=>qB (xE tb b) λd=>qV d λd=>qC λch=>ixV ch c d
 |.ls m as=>qB (xA tb as) λcs=>qP λ_ ch=>if cs.length<=qa5 then finL m cs ch else ψ
 |.tu as=>qB (xA tb as) λcs=>qP λ_ ch=>if cs.length<=qa5 then(match dats cs with
  |some ds=>ς (.g (.t ds),ch)
  |none=>if cs.all CV.sol then ς (.ref ch.length,ch++[.t cs])else ψ)else ψ
 |.k d=>qP (eK d)
 |.v i=>qP (eV i)
 |.g j=>qP (evE tb (.g j))
 |e=>qW (evE tb e)
def xT(tb:Tb):E->QM Bool
 |.tr (.b2 o m a b)=>qB (qB (xE tb a) λc=>qB (xE tb b) λd=>qV c λx=>qV d λy=>qT (λ_=>o.g x y) m) λc=>qP λ_ ch=>(dN c).map λb=>(b,ch)
 |.tr a=>qB (xE tb a) λc=>qP λ_ ch=>(vw ch c).bind λd=>(qN d).map λb=>(b,ch)
 |.tn a=>qB (xT tb a) λb=>qP λ_ ch=>ς (!b,ch)
 |.ta a b=>qB (xT tb a) λc=>if c then xT tb b else qP λ_ ch=>ς (ξ,ch)
 |.to a b=>qB (xT tb a) λc=>if c then qP (λ_ ch=>ς (θ,ch))else xT tb b
 |e=>qP (evT tb e)
def xA(tb:Tb):E->QM (η CV)
 |.nil=>qP aNl
 |.cons a as=>qB (xE tb a) λc=>qB (xA tb as) λcs=>qP λ_ ch=>ς (c::cs,ch)
 |e=>qP (evA tb e)
end
theorem Snd.f{α:Type}{x:QM Bool}{c:FM Bool}{y z:QM α}{f g:FM α}(h:Snd x c)(Z:Snd y f)(hz:Snd z g):Snd (qB x λb=>if b then y else z) (λδ ch=>(c δ ch).bind λp=>if p.1 then f δ p.2 else g δ p.2):=λδ ch s r s' e al=>by
 have⟨⟨⟨b,ch1⟩,s1⟩,h1,e⟩:=bS e;cases b with
 |true=>have⟨O,Y⟩:=Z _ _ _ _ _ e al;have⟨W,U⟩:=h _ _ _ _ _ h1 Y;exact⟨by show(c δ ch).bind _=_;rw[W];exact O,U⟩
 |false=>have⟨O,Y⟩:=hz _ _ _ _ _ e al;have⟨W,U⟩:=h _ _ _ _ _ h1 Y;exact⟨by show(c δ ch).bind _=_;rw[W];exact O,U⟩
theorem caX.ok{x:QM (η CV)}{f:FM (η CV)}(h:Snd x f)(o:ζ En):Snd (caX x f o) (caE f o):=by
 cases o with
 |none=>exact .w
 |some q=>cases q<;>first|exact h.b (j:=λcs=>kCa _ _ cs) λcs=>.i λ_=>.w|exact .w
omit x in
theorem meX.ok{x:QM CV}{f:Fg}{y:QM (η CV)}{g:FM (η CV)}(U:Snd x f)(Z:Snd y g)(o:ζ En):Snd (meX x f y g o) (meE f g o):=by
 cases o with
 |none=>exact .w
 |some q=>
  cases q<;>first|exact .w|skip
  rename_i c m n F;intro δ ch s r s' e al;have⟨⟨⟨x,ch1⟩,s1⟩,h1,e⟩:=bS e;dsimp only at e;split at e
  .rename_i i;have⟨⟨o1,s2⟩,g1,e⟩:=bS e;dsimp only at e;split at e
   .split at e
    .rename_i hc;have⟨W,O⟩:=(Z.b (j:=λcs=>kCa n F (.ref i::cs)) λcs=>.i λ_=>.w) _ _ _ _ _ e al;have⟨g2,O⟩:=cb g1 O;have⟨Y,i4⟩:=U _ _ _ _ _ h1 O;refine⟨?_,i4⟩;show eMe c n F f g δ ch=_;unfold eMe;rw[Y,qa0];dsimp only;rw[g2];dsimp only;rw[if_pos hc];exact W
    .cases e
   .cases e
  .cases e
omit x in
theorem eU(tb:Tb)(e:E):Snd (xE tb e) (evE tb e)/\Snd (xT tb e) (evT tb e)/\Snd (xA tb e) (evA tb e):=by
 induction e with
 |b2 o m a b O hb=>exact⟨(O.1).b (j:=λc=>_) λc=>(hb.1).b (j:=λd=>_) λd=>.vw (j:=λx=>_) λx=>.vw (j:=λy=>_) λy=>.t,.p,.p⟩
 |cd t a b ht O hb=>exact⟨ht.2.1.f O.1 hb.1,.p,.p⟩
 |bn o m as h=>exact⟨(h.2.2).b (j:=λcs=>kB m o.g cs) λcs=>.vws (j:=λds=>_) λds=>.t,.p,.p⟩
 |ii c a h=>exact⟨(h.1).b (j:=λc=>_) λc=>.p,.p,.p⟩
 |gt a k e O hk he=>
  refine⟨(O.1).b (j:=λx δ ch=>if ib ch x then(evE tb k δ ch).bind λq=>(evE tb e δ q.2).bind λr=>(vw r.2 q.1).bind λk=>if r.1.sol then(getV r.2 x k r.1).map λc=>(c,r.2)else ψ else ψ) λx δ ch s r s' h al=>?_,.p,.p⟩;split at h
  .rename_i q;have⟨Y,Z⟩:=((hk.1).b (j:=λy=>_) λy=>(he.1).b (j:=λz=>_) λz=>.vw (j:=λk=>_) λk=>.i λ_=>.c) _ _ _ _ _ h al;exact⟨by dsimp only;rw[if_pos q];exact Y,Z⟩
  .cases h
 |an a b O hb=>
  refine⟨?_,.p,.p⟩;intro δ ch s r s' e al;have⟨⟨⟨c,ch1⟩,s1⟩,h1,e⟩:=bS e;have⟨w,h2,e⟩:=bS e;cases w with
  |true=>have⟨Y,Z⟩:=hb.1 _ _ _ _ _ e al;have⟨U,W⟩:=O.1 _ _ _ _ _ h1 Z;exact⟨by show(evE tb a δ ch).bind _=_;rw[U,qa0];show(dN c).bind _=_;rw[h2];exact Y,W⟩
  |false=>cases e;have⟨U,W⟩:=O.1 _ _ _ _ _ h1 al;exact⟨by show(evE tb a δ ch).bind _=_;rw[U,qa0];show(dN c).bind _=_;rw[h2];rfl,W⟩
 |ca j as h=>exact⟨caX.ok h.2.2 _,.p,.p⟩
 |me j o as ho h=>exact⟨meX.ok ho.1 h.2.2 _,.p,.p⟩
 |«at» c f o h=>
  refine⟨?_,.p,.p⟩;intro δ ch s r s' e al;have⟨⟨⟨x,ch1⟩,s1⟩,h1,e⟩:=bS e;dsimp only at e;split at e
  .have⟨⟨o1,s2⟩,g1,e⟩:=bS e;dsimp only at e;split at e
   .split at e
    .rename_i hc;have⟨y,g2,e⟩:=mS e;cases e;have⟨g3,g4⟩:=cb g1 al;have⟨U,W⟩:=h.1 _ _ _ _ _ h1 g4;refine⟨?_,W⟩;show(evE tb o δ ch).bind _=_;rw[U,qa0];dsimp only;rw[g3];dsimp only;rw[if_pos hc,g2];rfl
    .cases e
   .cases e
  .cases e
 |ix a b O hb=>exact⟨(O.1).b (j:=λc=>_) λc=>(hb.1).b (j:=λd=>_) λd=>.vw (j:=λd=>_) λd=>.c,.p,.p⟩
 |ls m as h=>exact⟨(h.2.2).b (j:=λcs=>_) λcs=>.p,.p,.p⟩
 |tu as h=>exact⟨(h.2.2).b (j:=λcs=>_) λcs=>.p,.p,.p⟩
 |tr a h=>refine⟨.w,?_,.p⟩;cases a<;>first|exact(h.1).b (j:=λc _ ch=>(vw ch c).bind λd=>(qN d).map λb=>(b,ch)) λc=>.p|exact(h.1).b (j:=λc _ ch=>(dN c).map λb=>(b,ch)) λc=>.p
 |tn a h=>exact⟨.w,λδ ch s r s' e al=>by have⟨p,h1,h2⟩:=bS e;cases h2;have⟨Y,Z⟩:=h.2.1 _ _ _ _ _ h1 al;exact⟨by show(evT tb a δ ch).map _=_;rw[Y];rfl,Z⟩,.p⟩
 |ta a b O hb=>exact⟨.w,O.2.1.f hb.2.1 .p,.p⟩
 |to a b O hb=>exact⟨.w,O.2.1.f .p hb.2.1,.p⟩
 |nil=>exact⟨.w,.p,.p⟩
 |cons a as O h=>exact⟨.w,.p,λδ ch s r s' e al=>by have⟨p,h1,e⟩:=bS e;have⟨q,h2,e⟩:=bS e;cases e;have⟨Y,Z⟩:=h.2.2 _ _ _ _ _ h2 al;have⟨U,W⟩:=O.1 _ _ _ _ _ h1 Z;exact⟨by show(evE tb a δ ch).bind _=_;rw[U,qa0,Y];rfl,W⟩⟩
 |k d=>exact⟨.p,.p,.p⟩
 |v i=>exact⟨.p,.p,.p⟩
 |g j=>exact⟨.p,.p,.p⟩
 |_=>exact⟨.w,.p,.p⟩
noncomputable def sB(x y:Sl->CH->Qs->ζ (Og×Qs)):Sl->CH->Qs->ζ (Og×Qs):=λδ ch s=>(x δ ch s).bind λp=>match p.1 with
 |.nx δ' ch'=>y δ' ch' p.2
 |o=>ς (o,p.2)
noncomputable def sA{α:Type}(x:QM α)(k:α->Sl->CH->ζ Og):Sl->CH->Qs->ζ (Og×Qs):=λδ ch s=>(x δ ch s).bind λp=>(k p.1.1 δ p.1.2).map λo=>(o,p.2)
def sK{α:Type}(x:QM α)(k:α->Sl->CH->ζ Og):Sl->CH->Qs->ζ (Og×Qs):=λδ ch s=>(x δ ch s).bind λp=>kO (k p.1.1 δ p.1.2) p.2
def qqBq(x y:QM CV):QM (CV×CV):=qB x λc=>qB y λd=>qP λ_ ch=>ς ((c,d),ch)
def apO(l:η CV)(c:CV):ζ CO:=if l.length<qa5/\c.sol=θ then ς (.e (l++[c]))else ψ
def isL:CO->ζ (η CV)
 |.e l=>ς l
 |_=>ψ
theorem vv{i:Nat}{o:CO}{l:η CV}(h:ch[i]?=ς o)(k:isL o=ς l):cH ch i=ς l:=by unfold cH;rw[h];cases o<;>first|(cases k;done)|exact k
def xS(tb:Tb):S->Sl->CH->Qs->ζ (Og×Qs)
 |.nil=>λδ ch s=>ς (.nx δ ch,s)
 |.sq a b=>sB (xS tb a) (xS tb b)
 |.set i e=>sA (xE tb e) λc δ ch=>if c.kp then ς (.nx (δ.set i (ς c)) ch)else ψ
 |.rt e=>sA (xE tb e) λc _ ch=>if c.sol then ς (.rt c ch)else ψ
 |.rn=>λ_ ch s=>ς (.rt (.g .non) ch,s)
 |.dr e=>sA (xE tb e) λ_ δ ch=>ς (.nx δ ch)
 |.cd c a b=>λδ ch s=>(xT tb c δ ch s).bind λp=>if p.1.1 then xS tb a δ p.1.2 p.2 else xS tb b δ p.1.2 p.2
 |.fl c f o e=>sA (qqBq (xE tb e) (xE tb o)) λp δ ch=>(match p.2 with
  |.ref i=>((ch[i]?).bind λo=>cV c f o p.1).map λo'=>.nx δ (ch.set i o')
  |_=>ψ)
 |.put a k e=>λδ ch s=>(qB (xE tb e) (λv=>qB (xE tb a) λo=>qB (xE tb k) λw=>qP λ_ ch=>ς ((v,o,w),ch)) δ ch s).bind λq=>(match q.1.1.2.1 with
  |.ref i=>if q.1.1.1.sol then(vw q.1.2 q.1.1.2.2).bind λd=>(kH q.1.2[i]? q.2).bind λo=>(kP (eN o.1 d q.1.1.1) o.2).map λr=>(.nx δ (q.1.2.set i r.1),r.2)else ψ
  |_=>ψ)
 |.ap a e=>λδ ch s=>(xE tb a δ ch s).bind λp=>(xE tb e δ p.1.2 p.2).bind λq=>(match p.1.1 with
  |.ref i=>(kH p.1.2[i]? q.2).bind λo=>(kH q.1.2[i]? o.2).bind λO=>(isL o.1).bind λ_=>(isL O.1).bind λl=>(kP (apO l q.1.1) O.2).map λr=>(.nx δ (q.1.2.set i r.1),r.2)
  |_=>ψ)
 |.aps i e=>sK (xE tb e) λc δ ch=>sAs i (λ_ ch=>ς (c,ch)) δ ch
 |s=>λδ ch q=>kO (evS tb s δ ch) q
omit x in
theorem vA(tb:Tb)(s:S):Sns (xS tb s) (evS tb s):=by
 induction s with
 |nil=>intro δ ch s r s' e al;cases e;exact⟨rfl,al⟩
 |sq a b ha hb=>
  intro δ ch s r s' e al;have⟨⟨o,s1⟩,h1,e⟩:=bS e;cases o with
  |nx δ1 ch1=>have⟨W,Y⟩:=hb _ _ _ _ _ e al;have⟨O,U⟩:=ha _ _ _ _ _ h1 Y;exact⟨by show(evS tb a δ ch).bind _=_;rw[O];exact W,U⟩
  |_=>cases e;have⟨O,U⟩:=ha _ _ _ _ _ h1 al;exact⟨by show(evS tb a δ ch).bind _=_;rw[O];rfl,U⟩
 |set i e=>intro δ ch s r s' h al;have⟨p,h1,h⟩:=bS h;have⟨o,h2,h⟩:=mS h;cases h;have⟨O,U⟩:=(eU tb e).1 _ _ _ _ _ h1 al;exact⟨by show(evE tb e δ ch).bind _=_;rw[O];exact h2,U⟩
 |rt e=>intro δ ch s r s' h al;have⟨p,h1,h⟩:=bS h;have⟨o,h2,h⟩:=mS h;cases h;have⟨O,U⟩:=(eU tb e).1 _ _ _ _ _ h1 al;exact⟨by show(evE tb e δ ch).bind _=_;rw[O];exact h2,U⟩
 |rn=>intro δ ch s r s' e al;cases e;exact⟨rfl,al⟩
 |dr e=>intro δ ch s r s' h al;have⟨p,h1,h⟩:=bS h;cases h;have⟨O,U⟩:=(eU tb e).1 _ _ _ _ _ h1 al;exact⟨by show(evE tb e δ ch).map _=_;rw[O];rfl,U⟩
 |cd c a b ha hb=>
  intro δ ch s r s' e al;have⟨⟨⟨w,ch1⟩,s1⟩,h1,e⟩:=bS e;cases w with
  |true=>have⟨W,Y⟩:=ha _ _ _ _ _ e al;have⟨O,U⟩:=(eU tb c).2.1 _ _ _ _ _ h1 Y;exact⟨by show(evT tb c δ ch).bind _=_;rw[O];exact W,U⟩
  |false=>have⟨W,Y⟩:=hb _ _ _ _ _ e al;have⟨O,U⟩:=(eU tb c).2.1 _ _ _ _ _ h1 Y;exact⟨by show(evT tb c δ ch).bind _=_;rw[O];exact W,U⟩
 |fl c f o e=>intro δ ch s r s' h al;have⟨p,h1,h⟩:=bS h;have⟨w,h2,h⟩:=mS h;cases h;have⟨q1,k1,h1⟩:=bS h1;have⟨q2,k2,h1⟩:=bS h1;cases h1;have⟨W,Y⟩:=(eU tb o).1 _ _ _ _ _ k2 al;have⟨O,U⟩:=(eU tb e).1 _ _ _ _ _ k1 Y;exact⟨by show(evE tb e δ ch).bind _=_;rw[O,qa0,W];exact h2,U⟩
 |put a k e=>
  intro δ ch s r s' h al;have⟨_,h1,h⟩:=bS h;have⟨⟨⟨v,c1⟩,s1⟩,k1,h1⟩:=bS h1;have⟨⟨⟨o,c2⟩,s2⟩,k2,h1⟩:=bS h1;have⟨⟨⟨w,c3⟩,s3⟩,k3,h1⟩:=bS h1;cases h1;dsimp only at h;split at h
  .rename_i i;split at h
   .rename_i hs;have⟨d,g1,h⟩:=bS h;have⟨c,g2,h⟩:=bS h;have⟨c',g3,h⟩:=mS h;cases h;have⟨Z,al⟩:=cb g3 al;have⟨g2,al⟩:=cb g2 al;have⟨i5,i6⟩:=(eU tb k).1 _ _ _ _ _ k3 al;have⟨W,Y⟩:=(eU tb a).1 _ _ _ _ _ k2 i6;have⟨O,U⟩:=(eU tb e).1 _ _ _ _ _ k1 Y;refine⟨?_,U⟩;show(evE tb e δ ch).bind _=_;rw[O,qa0,W,qa0,i5,qa0];dsimp only;rw[if_pos hs,g1,qa0,g2,qa0,Z];rfl
   .cases h
  .cases h
 |ap a e=>
  intro δ ch s r s' h al;have⟨⟨⟨v,ch1⟩,s1⟩,h1,h⟩:=bS h;have⟨⟨⟨w,ch2⟩,s2⟩,h2,h⟩:=bS h;dsimp only at h;split at h
  .have⟨⟨o1,s3⟩,f1,h⟩:=bS h;have⟨⟨o2,s4⟩,f2,h⟩:=bS h;have⟨_,g1,h⟩:=bS h;have⟨l,g2,h⟩:=bS h;have⟨c',g3,h⟩:=mS h;cases h;have⟨Z,al⟩:=cb g3 al;have⟨f3,al⟩:=cb f2 al;have⟨f4,al⟩:=cb f1 al
   replace g1:=vv f4 g1
   replace g2:=vv f3 g2
   have⟨W,Y⟩:=(eU tb e).1 _ _ _ _ _ h2 al;have⟨O,U⟩:=(eU tb a).1 _ _ _ _ _ h1 Y;refine⟨?_,U⟩;show(evE tb a δ ch).bind _=_;rw[O,qa0,W,qa0];dsimp only;rw[g1,qa0,g2,qa0];unfold apO at Z;split at Z
   .rename_i hc;rw[if_pos hc,qd3 Z]
   .cases Z
  .cases h
 |aps i e=>intro δ ch s r s' h al;have⟨p,h1,h⟩:=bS h;have⟨h2,al⟩:=cb h al;have⟨O,U⟩:=(eU tb e).1 _ _ _ _ _ h1 al;exact⟨by show(evE tb e δ ch).bind _=_;rw[O];exact h2,U⟩
 |_=>exact λδ ch s r s' h al=>cb h al
inductive Oa:List An->List Prop->Prop
 |nil:Oa [] []
 |v (n:Nat) {w:Option (CV×CH)} {x:CV×CH} {g:List An} {L:List Prop} (h:w=ς x) (t:Oa g L):Oa (.v n x::g) ((w=ς x)::L)
 |o (n:Nat) {w:Option Og} {x:Og} {g:List An} {L:List Prop} (h:w=ς x) (t:Oa g L):Oa (.o n x::g) ((w=ς x)::L)
 |t (n:Nat) {w:Option T} {x:T} {g:List An} {L:List Prop} (h:w=ς x) (t:Oa g L):Oa (.t n x::g) ((w=ς x)::L)
 |c (n:Nat) {w:Option CV} {x:CV} {g:List An} {L:List Prop} (h:w=ς x) (t:Oa g L):Oa (.c n x::g) ((w=ς x)::L)
 |h (n:Nat) {w:Option CO} {x:CO} {g:List An} {L:List Prop} (h:w=ς x) (t:Oa g L):Oa (.h n x::g) ((w=ς x)::L)
 |d (n:Nat) {w:Option Dt} {x:Dt} {g:List An} {L:List Prop} (h:w=ς x) (t:Oa g L):Oa (.d n x::g) ((w=ς x)::L)
 |p (n:Nat) {w:Option CO} {x:CO} {g:List An} {L:List Prop} (h:w=ς x) (t:Oa g L):Oa (.p n x::g) ((w=ς x)::L)
theorem Oa.all{g:η An}{L:η Prop}(h:Oa g L):All L:=by
 induction h with
 |nil=>trivial
 |v _ h _ O|o _ h _ O|t _ h _ O|c _ h _ O|p _ h _ O|d _ h _ O|h _ h _ O=>exact⟨h,O⟩
theorem kZ{L M:η Prop}(h:All L)(k:All M):All (L.reverseAux M):=by
 induction L generalizing M with
 |nil=>exact k
 |cons p l O=>exact O h.2 ⟨h.1,k⟩
def xF(gc:η (Str×Dt))(g:η An):η Df->η CV->CH->ζ ((CV×CH)×η Prop)
 |[],_,_=>ψ
 |d::r,cs,ch=>match xS (av gc r) d.b (cs.map ς++qb1 (d.m-cs.length) ψ) ch (g,[])with
  |some (.rt c ch',[],L)=>ς ((c,ch'),L)
  |some (.nx _ ch',[],L)=>ς ((.g .non,ch'),L)
  |_=>ψ
omit x in
theorem Fn{gc:η (Str×Dt)}{ds:η Df}{g:η An}{L:η Prop}{r:CV×CH}(a:Oa g L)(h:xF gc g ds cs ch=ς (r,L.reverse)):FF gc ds cs ch=ς r:=by
 cases ds with
 |nil=>cases h
 |cons d ds=>
  have al:All L.reverse:=kZ a.all trivial;show cK _ _ _ _=_;unfold cK
  replace h:(match xS (av gc ds) d.b (cs.map ς++qb1 (d.m-cs.length) ψ) ch (g,[])with|some (.rt c ch',[],L)=>ς ((c,ch'),L)|some (.nx _ ch',[],L)=>ς ((CV.g .non,ch'),L)|_=>ψ)=ς (r,L.reverse):=h
  split at h
  .rename_i q;cases h;rw[((vA _ _) _ _ _ _ _ q al).1]
  .rename_i q;cases h;rw[((vA _ _) _ _ _ _ _ q al).1]
  .cases h
theorem xR{gc:η (Str×Dt)}{ds:η Df}{g:η An}{L:η Prop}{r:CV×CH}(a:Oa g L)(h:xF gc g ds cs ch=ς (r,L.reverse):=by kernel_rfl):FF gc ds cs ch=ς r:=Fn a h
theorem xRs{s:S}{g:η An}{L:η Prop}{o:Og}(a:Oa g L)(h:xS tb s δ ch (g,[])=ς (o,([],L.reverse)):=by kernel_rfl):evS tb s δ ch=ς o:=(vA tb s _ _ _ _ _ h (kZ a.all trivial)).1
noncomputable def foB:S->S
 |.sq (.fo _ _ b) _=>b
 |.sq (.wh _ _ b) _=>b
 |.sq _ b=>foB b
 |_=>.nil
theorem vl{i:Nat}{L:η Dt}(h:ch[i]?=ς (.e (L.map .g))):vw ch (.ref i)=ς (.e L):=by show(ch[i]?).bind vwO=_;rw[h];show(dats (L.map .g)).map Dt.e=_;rw[bC];rfl
theorem ofS{a b:String}:(qd0 a=qd0 b)=(a=b):=by refine propext ⟨λh=>?_,λh=>h▸rfl⟩;rw[zb3,zb3]at h;exact String.toList_inj.mp ((List.map_inj_right λ_ _=>Char.toNat_inj.mp).mp (congrArg (·.cps.toList) h))
abbrev Tn:=(Str×Nat)×Int
noncomputable def Tn.d(t:Tn):Dt:=.t [.t [.str t.1.1,.int t.1.2],.int t.2]
abbrev Bx:=Str×Int
noncomputable def Bx.d(t:Bx):Dt:=.t [.str t.1,.int t.2]
structure Pg where
 r:Nat
 dn:Int
 he:Int
 sy:Int
 bs:List Bx
 ts:List Tn
def Pg.h(p:Pg):η Dt:=[.int p.r,.int p.dn,.int p.he,.int p.sy]
abbrev Pg.b(p:Pg):η Dt:=p.bs.map Bx.d
abbrev Pg.t(p:Pg):η Dt:=p.ts.map Tn.d
def Pg.d(p:Pg):Dt:=.t [.int p.r,.int p.dn,.int p.he,.int p.sy,.e p.b,.e p.t]
def up(f:Bool->Pg)(b:Bool)(p:Pg):Bool->Pg:=λx=>if x=b then p else f x
inductive Sm where
 |put (n:Str) (p:Nat) (v:Int)|wake|beg (a:Nat) (b c d:Int)|box (n:Str) (v:Int)|log (n:Str) (p:Nat) (v:Int)|trn
noncomputable def Sm.d:Sm->Dt
 |.put n p v=>.t [.str "put",.str n,.int p,.int v]
 |.wake=>.t [.str "wake"]
 |.beg a b c d=>.t [.str "begin",.int a,.int b,.int c,.int d]
 |.box n v=>.t [.str "box",.str n,.int v]
 |.log n p v=>.t [.str "log",.str n,.int p,.int v]
 |.trn=>.t [.str "turn"]
structure Fx where
 rows:List Dt
 onw:List Dt
 sk:List Key
 sv:List Dt
 tw:List Dt
 kk:List Key
 kv:List Dt
 inc:List Dt
structure HS where
 x:Fx
 plan:List Sm
 pg:Bool->Pg
 c:Bool
 res:Option Int
 fst:List (Key×Dt)
 unl:Bool
 dust:Int
def cI:Bool->Int
 |true=>1
 |false=>0
def rD:ζ Int->Dt
 |none=>.non
 |some i=>.int i
noncomputable abbrev dl(l:η Dt):CO:=.e (l.map .g)
noncomputable def dp{κ:Type}(l:η (κ×Dt)):η (κ×CV):=l.map λp=>(p.1,.g p.2)
theorem cB{κ:Type}{l:η (κ×Dt)}:(dp l).map (·.1)=l.map (·.1):=by simp[dp,qb4]
theorem cC{κ:Type}{l:η (κ×Dt)}:dats ((dp l).map (·.2))=ς (l.map (·.2)):=by
 have e:(dp l).map (·.2)=(l.map (·.2)).map .g:=by simp[dp,qb4]
 rw[e,bC]
theorem nN{κ:Type}{l:η (κ×Dt)}:((dp l).map (·.1)).zip (l.map (·.2))=l:=by
 rw[cB];induction l with
 |nil=>rfl
 |cons p l O=>rwa[qa3,List.zip_cons_cons,O]
theorem k4{κ:Type}{l:η (κ×Dt)}:(dp l).length=l.length:=by simp[dp]
noncomputable abbrev I(i:Int):CV:=.g (.int i)
def hO(S:HS)(lv O:CV):CO:=.ins 3 [.g (.t S.x.rows),.g (.e S.x.onw),.g (.dct S.x.sk S.x.sv),.g (.e S.x.tw),.g (.dct S.x.kk S.x.kv),.g (.e S.x.inc),.ref 1,.ref 2,I S.dust,lv,O]
def hbN(S:HS)(lv:CV)(rf:η (Key×CV))(O b1 t0 t1:Nat)(tl:CH):CH:=hO S lv (.ref 3)::.ins 2 [.ref 4,.ref 5,.ref 6,.ref 7,I (cI S.c),.g (rD S.res)]::.ins 0 [.ref 8,.g (.bl S.unl)]::dl (S.plan.map Sm.d)::.dK rf::.e [.g (.t (S.pg ξ).h),.g (.t (S.pg θ).h)]::.e [.ref O,.ref b1]::.e [.ref t0,.ref t1]::.dK (dp S.fst)::dl (S.pg ξ).b::dl (S.pg θ).b::dl (S.pg ξ).t::dl (S.pg θ).t::tl
abbrev hb(S:HS)(lv:CV)(rf:η (Key×CV))(tl:CH):CH:=hbN S lv rf 9 10 11 12 tl
variable{rf:η (Key×CV)}{tl:CH}
theorem C5{S:HS}{lv:CV}:(hb S lv rf tl)[0]?=ς (.ins 3 [.g (.t S.x.rows),.g (.e S.x.onw),.g (.dct S.x.sk S.x.sv),.g (.e S.x.tw),.g (.dct S.x.kk S.x.kv),.g (.e S.x.inc),.ref 1,.ref 2,I S.dust,lv,.ref 3]):=rfl
theorem hb_3{S:HS}{lv:CV}:(hb S lv rf tl)[3]?=ς (.e ((S.plan.map Sm.d).map .g)):=rfl
theorem hb_t{S:HS}{lv:CV}{k:Nat}:(hb S lv rf tl)[k+13]?=tl[k]?:=rfl
local macro_rules|`(tactic|simp! only[$x,*]$(l)?)=>do
 let a:=mL0 "cK aZ gr sRt sRn sIf iS sDr sFl sFa sAu sPt sAp sCl e2 eIx eAt eV eK eTu eLs eB kB eCa kCa eMe eIf eIs eGt eIl iQ hW tNt tAn uk aCn aNl"
 `(tactic|simp only[$a,*,$x,*]$(l)?)
local macro_rules|`(tactic|simp![$x,*]$(l)?)=>do
 let a:=mL0 ("ixD bQ gIx atI ixN "++mD0)
 `(tactic|simp[PySem.sizeLine_eq,$a,*,$x,*]$(l)?)
local macro_rules|`(tactic|dsimp![$x,*]$(l)?)=>do
 let a:=mL0 mD0
 `(tactic|simp[PySem.sizeLine_eq,$a,*,$x,*]$(l)?)
variable{ch':CH}{a:Nat}
section
variable{S:HS}{lv:CV}{rf:η (Key×CV)}{tl:CH}
theorem vB:F18 [.ref 0] (hb S lv rf tl)=ς (I (cI S.c),hb S lv rf tl):=rfl
theorem k6(b:Bool):F16 [.ref 0,I (cI b)] (hb S lv rf tl)=ς (.g (S.pg b).d,hb S lv rf tl):=by
 cases b
 .have h:F15 [.ref 1,I 0] (hb S lv rf tl)=ς (.g (S.pg ξ).d,hb S lv rf tl):=xR (.d 0 (vl (ch:=hb S lv rf tl) (i:=9) (L:=(S.pg ξ).b) rfl) (.d 0 (vl (ch:=hb S lv rf tl) (i:=11) (L:=(S.pg ξ).t) rfl) .nil));exact xR (.v 0 h .nil)
 .have h:F15 [.ref 1,I 1] (hb S lv rf tl)=ς (.g (S.pg θ).d,hb S lv rf tl):=xR (.d 0 (vl (ch:=hb S lv rf tl) (i:=10) (L:=(S.pg θ).b) rfl) (.d 0 (vl (ch:=hb S lv rf tl) (i:=12) (L:=(S.pg θ).t) rfl) .nil));exact xR (.v 0 h .nil)
theorem l9:F24 [.ref 0] (hb S lv rf tl)=ς (.g (.bl S.res.isSome),hb S lv rf tl):=by have⟨x,pl,pg,c,O,fs,un,U⟩:=S;cases O<;>exact xR .nil
theorem iu:F31 [.ref 1] (hb S lv rf tl)=ς (I (cI (!S.c)),hb S lv rf tl):=by have⟨x,pl,pg,c,O,fs,un,U⟩:=S;cases c<;>rfl
theorem yI{v:Int}:F38 [.ref 1,I v] (hb S lv rf tl)=ς (.g .non,hb {S with res:=ς v} lv rf tl):=rfl
theorem C6{n:Str}{k p:Nat}{v:Dt}(h1:lkC rf (.inr n)=ς (.ref (k+13)))(h2:tl[k]?=ς (dl l))(hp:p<l.length):F30 [.ref 1,.g (.str n),I p,.g v] (hb S lv rf tl)=ς (.g .non,hb S lv rf (tl.set k (dl (l.set p v)))):=by
 have e:ixN l.length (p:Int)=ς p:=by unfold ixN;simp;lia
 exact xR (.c 0 (show ixV (hb S lv rf tl) (.ref 4) (.str n)=ς (.ref (k+13))from h1) (.h 0 (show(hb S lv rf tl)[k+13]?=ς (dl l)from h2) (.p 0 (show eN (dl l) (.int p) (.g v)=ς (dl (l.set p v))by show(ixN (l.map CV.g).length _).map _=_;rw[qa6,e,dl,qu6];rfl) .nil)))
theorem zY{α:Type}{f:α->Dt}{l:η α}{a:α}(hl:l.length<qa5):apO ((l.map f).map .g) (.g (f a))=ς (dl ((l++[a]).map f)):=by unfold apO;rw[if_pos ⟨by rw[qa6,qa6];exact hl,rfl⟩,dl,qd6,qd6];rfl
def ap(S:HS):Sm->HS
 |.beg a b c d=>{S with pg:=up S.pg (!S.c) ⟨a,b,c,d,[],[]⟩}
 |.box n v=>{S with pg:=up S.pg (!S.c) {S.pg (!S.c)with bs:=(S.pg (!S.c)).bs++[(n,v)]}}
 |.log n p v=>{S with pg:=up S.pg (!S.c) {S.pg (!S.c)with ts:=(S.pg (!S.c)).ts++[((n,p),v)]}}
 |.trn=>{S with c:=!S.c}
 |_=>S
theorem C7{n:Str}{v:Int}(hl:(S.pg (!S.c)).bs.length<qa5):F36 [.ref 1,.g (Sm.d (.box n v))] (hb S lv rf tl)=ς (.g .non,hb (ap S (.box n v)) lv rf tl):=by
 have⟨x,pl,pg,c,O,fs,un,U⟩:=S
 have h:F33 [.ref 1,.g (.str n),I v] (hb ⟨x,pl,pg,c,O,fs,un,U⟩ lv rf tl)=ς (.g .non,hb (ap ⟨x,pl,pg,c,O,fs,un,U⟩ (.box n v)) lv rf tl):=by have o:=iu (S:=⟨x,pl,pg,c,O,fs,un,U⟩) (lv:=lv) (rf:=rf) (tl:=tl);cases c<;>exact xR (.v 0 o (.p 0 (zY (f:=Bx.d) (a:=(n,v)) hl) .nil))
 exact xR (.v 0 h .nil)
theorem C8{n:Str}{p:Nat}{v:Int}(hl:(S.pg (!S.c)).ts.length<qa5):F36 [.ref 1,.g (Sm.d (.log n p v))] (hb S lv rf tl)=ς (.g .non,hb (ap S (.log n p v)) lv rf tl):=by
 have⟨x,pl,pg,c,O,fs,un,U⟩:=S
 have h:F34 [.ref 1,.g (.str n),I p,I v] (hb ⟨x,pl,pg,c,O,fs,un,U⟩ lv rf tl)=ς (.g .non,hb (ap ⟨x,pl,pg,c,O,fs,un,U⟩ (.log n p v)) lv rf tl):=by have o:=iu (S:=⟨x,pl,pg,c,O,fs,un,U⟩) (lv:=lv) (rf:=rf) (tl:=tl);cases c<;>exact xR (.v 0 o (.p 0 (zY (f:=Tn.d) (a:=((n,p),v)) hl) .nil))
 exact xR (.v 0 h .nil)
theorem C9:F36 [.ref 1,.g (Sm.d .trn)] (hb S lv rf tl)=ς (.g .non,hb (ap S .trn) lv rf tl):=by have h:F35 [.ref 1] (hb S lv rf tl)=ς (.g .non,hb (ap S .trn) lv rf tl):=xR (.v 0 (iu (S:=S) (lv:=lv) (rf:=rf) (tl:=tl)) .nil);exact xR (.v 0 h .nil)
theorem Db{n:Str}{p:Nat}{v:Int}(h:F30 [.ref 1,.g (.str n),I p,I v] (hb S lv rf tl)=ς (.g .non,ch')):F36 [.ref 1,.g (Sm.d (.put n p v))] (hb S lv rf tl)=ς (.g .non,ch'):=xR (.v 0 h .nil)
def ma(S:HS)(a:Nat)(b c d:Int):HS:={S with pg:=up S.pg (!S.c) {S.pg (!S.c)with r:=a,dn:=b,he:=c,sy:=d}}
def hbB(S:HS)(lv:CV)(rf:η (Key×CV))(n:Nat)(tl:CH):CH:=bif S.c then hbN S lv rf n 10 (n+1) 12 tl else hbN S lv rf 9 n 11 (n+1) tl
theorem Dc{b c d:Int}:F36 [.ref 1,.g (Sm.d (.beg a b c d))] (hb S lv rf tl)=ς (.g .non,hbB (ma S a b c d) lv rf (tl.length+13) (tl++[.e []]++[.e []])):=by
 have⟨x,pl,pg,k,O,fs,un,U⟩:=S
 have h:F32 [.ref 1,I a,I b,I c,I d] (hb ⟨x,pl,pg,k,O,fs,un,U⟩ lv rf tl)=ς (.g .non,hbB (ma ⟨x,pl,pg,k,O,fs,un,U⟩ a b c d) lv rf (tl.length+13) (tl++[.e []]++[.e []])):=by
  have e:tl.length+13+1=(tl++[CO.e []]).length+13:=by simp
  unfold hbB;rw[e];cases k<;>rfl
 exact xR (.v 0 h .nil)
end
variable{ts:η Tn}{q:Bool}{P:η Sm}{S':HS}
section
variable{S:HS}{lv:CV}{rf:η (Key×CV)}{tl:CH}
theorem mf{ch:CH}{k:Str}(hl:ts.length<=qa5):F13 [.g (.str k),.g (.e (ts.map Tn.d))] ch=ς (.g (.e (ts.map λt=>.t [.str k,.str t.1.1,.int t.1.2,.int t.2])),ch):=by
 have:=bH (pt:=.many [0,1]) (ft:=tYs) (fe:=eTu (aCn (eV 2) (aCn (eIx (eV 0) (eK (.int 0))) (aCn (eIx (eV 0) (eK (.int 1))) (aCn (eV 1) aNl))))) (δ:=gC [ψ,ψ,ς 0] [ς (.g (.str k)),ς (.g (.e (ts.map Tn.d)))]) (ch:=ch) (f:=Tn.d) (g:=λt:Tn=>.t [.str k,.str t.1.1,.int t.1.2,.int t.2]) (l:=ts) λt _=>⟨_,rfl,rfl,rfl⟩
 refine xR (.v 0 (show eCo .v [ψ,ψ,ς 0] (iE (eV 1)) (bnd (.many [0,1])) tYs (eTu (aCn (eV 2) (aCn (eIx (eV 0) (eK (.int 0))) (aCn (eIx (eV 0) (eK (.int 1))) (aCn (eV 1) aNl))))) [ς (.g (.str k)),ς (.g (.e (ts.map Tn.d)))] ch=ς (.g (.e (ts.map λt=>.t [.str k,.str t.1.1,.int t.1.2,.int t.2])),ch)from ?_) .nil);simp[eCo,iE,eV,lent,itD,this,qa6,hl,bZ,fin,T.d]
noncomputable def bI(ts:η Tn):η Sm:=ts.map λt=>.put t.1.1 t.1.2 t.2
noncomputable def nO(ts:η Tn):η Sm:=ts.map λt=>.log t.1.1 t.1.2 t.2
theorem jJ{ch:CH}{p:Pg}(hl:p.ts.length<qa5):F14 [.g p.d] ch=ς (.ref ch.length,ch++[dl ((bI p.ts++[Sm.wake]).map Sm.d)]):=by
 have h1:=mf (ch:=ch) (k:="put") (qr6 hl);have O:(bI p.ts++[Sm.wake]).map Sm.d=(p.ts.map λt=>.t [.str "put",.str t.1.1,.int t.1.2,.int t.2])++[.t [.str "wake"]]:=by simp[bI,Sm.d,qb4]
 have h2:oAdd.g (.e (p.ts.map λt=>.t [.str "put",.str t.1.1,.int t.1.2,.int t.2])) (.e [.t [.str "wake"]])=ς (.e ((bI p.ts++[Sm.wake]).map Sm.d)):=by rw[O];simp[oAdd,orO,eG,show p.ts.length+1<=qa5 from hl]
 exact xR (.v 0 h1 (.t 0 h2 .nil))
theorem eqI{a b:Int}(h:decide (a=b)=q):oEq.g (.int a) (.int b)=ς (.f (.bl q)):=by rw[<- h];rfl
theorem nP{s:Sm}(hp:S.plan=s::P)(hl:S.plan.length<=1000000):rP (eAt 3 10 (eV 0)) (eK (.int 0)) [ς (.ref 0),ψ] (hb S lv rf tl)=ς (.g s.d,hb {S with plan:=P} lv rf tl):=by rw[hp]at hl;rwa[qb8]at hl;have e:(hb S lv rf tl).set 3 (.e ((P.map Sm.d).map .g))=hb {S with plan:=P} lv rf tl:=rfl;rw[qd1]at e;simp[rP,eAt,eV,eK,lent,C5,hb_3,hp,bR,cH,ixN,e];lia
theorem ix0{d:Dt}:ixV ch (.g (.t (d::l))) (.int 0)=ς (.g d):=by show(ixD _ _).map CV.g=_;simp[ixD,bQ,gIx,atI,ixN]
theorem noWk{k:Str}(O:(k=qd0 "wake")=False):oEq.g (.str k) (.str "wake")=ς (.f (.bl ξ)):=by show ς (T.f (.bl (decide (k=qd0 "wake"))))=_;rw[decide_eq_false (by rw[O];exact id)]
theorem pF{s:Sm}(h:s≠.wake):∃k r,s.d=.t (.str k::r)/\(k=qd0 "wake")=False:=by cases s<;>first|exact absurd rfl h|exact⟨_,_,rfl,by simp[ofS]⟩
variable{ch':CH}{s:Sm}
theorem dZ{q:Sm}(hp:S.plan=s::q::P)(W:s≠.wake)(hl:S.plan.length<=1000000)(O:F36 [.ref 1,.g s.d] (hb {S with plan:=q::P} lv rf tl)=ς (.g .non,ch'))(Y:ch'[0]?=ς (hO S' lv (.ref 3)))(Z:ch'[3]?=ς (dl ((q::P).map Sm.d))):F37 [.ref 0] (hb S lv rf tl)=ς (.g .non,ch'):=by have⟨k,r,e,hk⟩:=pF W;have U:=nP (lv:=lv) (rf:=rf) (tl:=tl) hp hl;rw[e]at U O;exact xR (.v 0 U (.c 0 (ix0 (ch:=hb {S with plan:=q::P} lv rf tl) (d:=.str k) (l:=r)) (.t 0 (noWk hk) (.v 0 O (.h 0 Y (.d 0 (vl (ch:=ch') (i:=3) (L:=(q::P).map Sm.d) Z) (.t 1 (eqI (a:=(((q::P).map Sm.d).length:Int)) (b:=0) (decide_eq_false (by simp;lia))) .nil)))))))
theorem nQ{a b c d e:CV}{bx:CO}{lg:η (η Key×CV)}(hp:S.plan=[s])(W:s≠.wake)(O:F36 [.ref 1,.g s.d] (hb {S with plan:=[]} (.ref 13) rf tl)=ς (.g .non,hb S' (.ref 13) rf (.ins 1 [a,b,c,d,.ref 14,e,.ref 15]::bx::.dT lg::ch')))(Y:S'.plan=[]):F37 [.ref 0] (hb S (.ref 13) rf tl)=ς (.g .non,hb S' (.ref 13) rf (.ins 1 [a,b,c,d,.ref 14,e,.ref 15]::bx::.dT []::ch')):=by
 have h4:oEq.g (.int (S'.plan.map Sm.d).length) (.int 0)=ς (.f (.bl θ)):=by rw[Y];rfl
 have⟨k,r,ed,Z⟩:=pF W;have U:=nP (lv:=.ref 13) (rf:=rf) (tl:=tl) hp (by rw[hp];simp);rw[ed]at U O;exact xR (.v 0 U (.c 0 (ix0 (ch:=hb {S with plan:=[]} (.ref 13) rf tl) (d:=.str k) (l:=r)) (.t 0 (noWk Z) (.v 0 O (.d 0 (vl (ch:=hb S' (.ref 13) rf (.ins 1 [a,b,c,d,.ref 14,e,.ref 15]::bx::.dT lg::ch')) (i:=3) (L:=S'.plan.map Sm.d) rfl) (.t 1 h4 .nil))))))
noncomputable def bxK(l:η Bx):η (Key×Dt):=l.map λt=>(.inr t.1,.int t.2)
theorem eY{ch:CH}:∀l:η Bx,aT ch (l.map (CV.g ∘ Bx.d))=ς (dp (bxK l))
 |[]=>rfl
 |t::l=>by rwa[qa3,Function.comp_apply,aT,Bx.d,bY,cJ,qa9,qa0,eY (ch:=ch) l];rfl
theorem k7{l:η Bx}(O:(l.map (·.1)).Nodup):((bxK l).map (·.1)).Nodup:=by
 have e:(bxK l).map (·.1)=(l.map (·.1)).map qn1:=by simp[bxK]
 rw[e];exact qh9 _ (λa b h q=>h (qv9 q)) O
theorem Dg{l:η (Key×Dt)}(O:(l.map (·.1)).Nodup):l5 .o (dp l) ch=ς (.ref ch.length,ch++[.dK (dp l)]):=by unfold l5;rw[cC];dsimp only;rw[nN];rwa[fin,al,O,if_true];rfl
theorem yJ{p:Pg}{u:Int}(O:(p.bs.map (·.1)).Nodup):F29 [.ref 0,.g p.d,I u] [.ins 1 []]=ς (.g .non,[.ins 1 [I p.r,I p.dn,I p.he,I p.sy,.ref 1,I u,.ref 2],.dK (dp (bxK p.bs)),.dT []]):=by
 have U:((dp (bxK p.bs)).map (·.1)).Nodup:=by rw[cB];exact k7 O
 have h1:eDc .o (eIx (eV 1) (eK (.int 4))) [ς (.ref 0),ς (.g p.d),ς (I u)] [.ins 1 [I p.r,I p.dn,I p.he,I p.sy]]=ς (.ref 1,[.ins 1 [I p.r,I p.dn,I p.he,I p.sy],.dK (dp (bxK p.bs))]):=by show(aT _ ((p.bs.map Bx.d).map .g)).bind _=_;rw[qd1,eY,qa0,if_pos U,Dg (k7 O)];rfl
 exact xR (.v 0 h1 .nil)
theorem fY{κ:Type}{l:η (κ×Dt)}:rnP ρ (dp l)=dp l:=by simp[rnP,dp,rn,qb4]
theorem nR {p:Pg} (hp:S.plan=[.wake]) (hg:S.pg S.c=p) (hn:(p.bs.map (·.1)).Nodup) :
  F37 [.ref 0] (hb S lv rf tl)=ς (.g .non,hb {S with plan:=[]} (.ref (tl.length+13)) rf (tl++[.ins 1 [I p.r,I p.dn,I p.he,I p.sy,.ref (tl.length+13+1),I S.dust,.ref (tl.length+13+2)],.dK (dp (bxK p.bs)),.dT []])):=by
 have U:F16 [.ref 0,I (cI S.c)] (hb {S with plan:=[]} lv rf tl)=ς (.g p.d,hb {S with plan:=[]} lv rf tl):=by rw[<- hg];exact k6 (S:={S with plan:=[]}) S.c
 have Y:F18 [.ref 0] (hb {S with plan:=[]} lv rf tl)=ς (I (cI S.c),hb {S with plan:=[]} lv rf tl):=vB
 have O:=gG (F:=F29) (c:=1) (n:=3) (ch:=hb {S with plan:=[]} lv rf tl) (δ:=[ς (.ref 0),ς (.g (.t [.str "wake"]))]) (fs:=aCn (eMe 3 2 F16 (eV 0) (aCn (eMe 3 1 F18 (eV 0) aNl) aNl)) (aCn (eAt 3 8 (eV 0)) aNl)) (ds:=[p.d,.int S.dust]) (ah _) (by simp[aCn,aNl,eMe,kCa,eV,eAt,lent,CV.old,C5,Y,U]) rfl (yJ hn) Ξ
 have eL:(hb {S with plan:=[]} lv rf tl).length=tl.length+13:=rfl
 have eX:hb {S with plan:=[]} lv rf tl++zg2 (rnO λx=>tl.length+13+x) [CO.ins 1 [I p.r,I p.dn,I p.he,I p.sy,.ref 1,I S.dust,.ref 2],.dK (dp (bxK p.bs)),.dT []]=hb {S with plan:=[]} lv rf (tl++[.ins 1 [I p.r,I p.dn,I p.he,I p.sy,.ref (tl.length+13+1),I S.dust,.ref (tl.length+13+2)],.dK (dp (bxK p.bs)),.dT []]):=by rwa[qa3,qf8,rnO,rn,fY];rfl
 rw[eL,eX]at O;generalize hT:tl++[CO.ins 1 [I p.r,I p.dn,I p.he,I p.sy,.ref (tl.length+13+1),I S.dust,.ref (tl.length+13+2)],.dK (dp (bxK p.bs)),.dT []]=W at O ⊢;have t1:W[tl.length]?=ς (CO.ins 1 [I p.r,I p.dn,I p.he,I p.sy,.ref (tl.length+13+1),I S.dust,.ref (tl.length+13+2)]):=by rw[<- hT];simp
 have t2:W[tl.length+2]?=ς (CO.dT []):=by rw[<- hT,qf0 Θ];simp
 have t3:W.set (tl.length+2) (CO.dT [])=W:=by
  refine qn5 λj=>?_
  by_cases Z:tl.length+2=j
  .subst Z;rw[qe0 (ai t2),t2]
  .rw[gN Z]
 have e4:(hb {S with plan:=[]} (.ref (tl.length+13)) rf W)[tl.length+13+2]?=ς (CO.dT []):=by rw[show tl.length+13+2=tl.length+2+13 by lia,hb_t,t2]
 have e5:(hb {S with plan:=[]} (.ref (tl.length+13)) rf W).set (tl.length+13+2) (CO.dT [])=hb {S with plan:=[]} (.ref (tl.length+13)) rf W:=by have:(hb {S with plan:=[]} (.ref (tl.length+13)) rf W).set (tl.length+2+13) (CO.dT [])=hb {S with plan:=[]} (.ref (tl.length+13)) rf (W.set (tl.length+2) (CO.dT [])):=rfl;rw[show tl.length+13+2=tl.length+2+13 by lia,this,t3]
 have e6:sCl θ (eAt 1 6 (eAt 3 9 (eV 0))) [ς (.ref 0),ς (.g (.t [.str "wake"]))] (hb {S with plan:=[]} (.ref (tl.length+13)) rf W)=ς (.nx [ς (.ref 0),ς (.g (.t [.str "wake"]))] (hb {S with plan:=[]} (.ref (tl.length+13)) rf W)):=by simp[sCl,eAt,eV,lent,C5,hb_t,t1,e4,e5,Cj]
 exact xR (.v 0 (nP (lv:=lv) (rf:=rf) (tl:=tl) hp (by rw[hp];simp)) (.v 0 O (.o 0 e6 .nil)))
end
def Vi(d:Dt):Prop:=∃i:Int,d=.int i/\0<=i/\i<1099511627776
abbrev Vn(i:Int):Prop:=0<=i/\i<1099511627776
theorem Vi.n{i:Int}(h:Vi (.int i)):Vn i:=by have⟨j,e,h⟩:=h;cases e;exact h
theorem Vn.i{i:Int}(h:Vn i):Vi (.int i):=⟨i,rfl,h⟩
structure LS where
 pl:Int
 dn:Int
 he:Int
 sy:Int
 du:Int
 bx:List (Key×Dt)
 lg:List (List Key×Dt)
def lO(l:LS):CO:=.ins 1 [I l.pl,I l.dn,I l.he,I l.sy,.ref 14,I l.du,.ref 15]
abbrev hl(S:HS)(l:LS)(rf:η (Key×CV))(tl:CH):CH:=hb S (.ref 13) rf (lO l::.dK (dp l.bx)::.dT (dp l.lg)::tl)
def iv(z:Int):ζ Dt->Int
 |some (.int i)=>i
 |_=>z
def lv{κ:Type}[DecidableEq κ](b:η (κ×Dt))(z:Int)(k:κ):Int:=iv z (am (b.map (·.1)) (b.map (·.2)) k)
def wv(f:Str->Int):Key->Int
 |.inl i=>i
 |.inr s=>f s
abbrev bv(b:η (Key×Dt))(z:Int)(s:Str):Int:=lv b z (.inr s)
section
variable{κ:Type}[DecidableEq κ]{k k':κ}{d:Dt}{b:η (κ×Dt)}{z:Int}
omit x in
theorem eZ{κ:Type}[DecidableEq κ]{k k':κ}{d:Dt}:∀{b:η (κ×Dt)},am ((aG b k d).map (·.1)) ((aG b k d).map (·.2)) k'=if k=k' then ς d else am (b.map (·.1)) (b.map (·.2)) k'
 |[]=>by simp[aG,am]
 |p::b=>by
  have O:=eZ (k:=k) (k':=k') (d:=d) (b:=b);unfold aG;split
  .rename_i e;rwa[qa3,am];by_cases h:k=k'
   .rw[if_pos (e.trans h),if_pos h]
   .rw[if_neg (λq=>h (e.symm.trans q)),if_neg h,if_neg (λq=>h (e.symm.trans q))]
  .rename_i e;rwa[qa3,am];rw[O];by_cases h:k=k'
   .rw[if_pos h,if_neg (λq=>e (q.trans h.symm)),if_pos h]
   .rw[if_neg h,if_neg h]
theorem Dh{v:Int}:lv (aG b k (.int v)) z k'=if k=k' then v else lv b z k':=by unfold lv;rw[eZ];split<;>rfl
end
abbrev Sh:=η (Str×Nat)
def cZ(a:Key):Prop:=Vi (aB a)\/∃s,a=.inr s
noncomputable def ae:Nat->Sh->η (Key×CV)
 |_,[]=>[]
 |o,p::r=>(.inr p.1,.ref o)::ae (o+1) r
theorem k8{n:Str}:∀{sh:Sh}{o k:Nat},(sh.map (·.1)).Nodup->sh[k]?=ς (n,m)->lkC (ae o sh) (.inr n)=ς (.ref (k+o))
 |[],o,k,_,h=>by cases h
 |p::r,o,0,W,h=>by cases h;simp[ae,lkC,qt9]
 |p::r,o,k+1,W,h=>by
  have O:=qc6.mp W;have Y:n∈r.map (·.1):=qb9.mpr ⟨_,qa4 h,rfl⟩;have:¬ p.1=n:=λe=>O.1 (by show p.1∈_;rw[e];exact Y)
  have U:=k8 (o:=o+1) O.2 h;rwa[ae,lkC,qt9,ze6,this,decide_false]at U ⊢;rw[U];simp;lia
abbrev Vf:=Str->Nat->Int
abbrev row(g:Vf)(q:Str×Nat):η Dt:=(qc8 q.2).map λp=>.int (g q.1 p)
def ao(sh:Sh)(g:Vf):CH:=sh.map λq=>dl (row g q)
def fu(g:Vf)(n:Str)(p:Nat)(v:Int):Vf:=λn' p'=>if n'=n/\p'=p then v else g n' p'
section
variable{sh:Sh}{g:Vf}{n:Str}{k m p:Nat}{v:Int}
theorem iw(h:sh[k]?=ς (n,m)):(ao sh g)[k]?=ς (dl (row g (n,m))):=by simp[ao,h]
theorem dz:(ao sh g).length=sh.length:=by simp[ao]
theorem yK:(row g (n,m)).length=m:=Ξ
theorem k9(h:p<m):(row g (n,m))[p]?=ς (.int (g n p)):=by simp[h]
theorem zZ:∀{sh:Sh}{j k:Nat}{a b:Str×Nat},(sh.map (·.1)).Nodup->sh[j]?=ς a->sh[k]?=ς b->a.1=b.1->j=k
 |[],_,_,_,_,_,h,_,_=>by cases h
 |q::sh,0,0,_,_,_,_,_,_=>rfl
 |q::sh,0,k+1,a,b,O,h1,h2,e=>by cases h1;exact absurd (qb9.mpr ⟨b,qa4 (l:=sh) h2,e.symm⟩:_∈sh.map (·.1)) (qc6.mp O).1
 |q::sh,j+1,0,a,b,O,h1,h2,e=>by cases h2;exact absurd (qb9.mpr ⟨a,qa4 (l:=sh) h1,e⟩:_∈sh.map (·.1)) (qc6.mp O).1
 |q::sh,j+1,k+1,a,b,O,h1,h2,e=>by rw[zZ (qc6.mp O).2 h1 h2 e]
theorem Di:row (fu g n p v) (n,m)=(row g (n,m)).set p (.int v):=by
 refine qn5 λi=>?_
 rw[List.getElem?_set];by_cases h:p=i
 .subst h;by_cases hp:p<m<;>simp[hp,fu]
 .rw[if_neg h];by_cases hi:i<m<;>simp[hi,fu,qj5 h]
theorem rX(W:(sh.map (·.1)).Nodup)(O:sh[k]?=ς (n,m)):(ao sh g).set k (dl ((row g (n,m)).set p (.int v)))=ao sh (fu g n p v):=by
 refine qn5 λj=>?_
 by_cases h:k=j
 .subst h;rw[qe0 (by rw[dz];exact ai O),iw O,Di]
 .rw[gN h];cases q:sh[j]? with
  |none=>simp[ao,q]
  |some a=>
   have U:¬ a.1=n:=λe=>h (zZ W O q e.symm)
   have e:row (fu g n p v) a=row g a:=by simp[fu,U]
   rwa[ao,qa8,q,qa9];rw[e]
end
noncomputable def off:ζ LS->Nat
 |none=>13
 |some _=>16
noncomputable def lvO:ζ LS->CV
 |none=>.g .non
 |some _=>.ref 13
def ar:ζ LS->CH->CH
 |none,tl=>tl
 |some l,tl=>lO l::.dK (dp l.bx)::.dT (dp l.lg)::tl
def hc(sh:Sh)(S:HS)(lo:ζ LS)(tl:CH):CH:=hb S (lvO lo) (ae (off lo) sh) (ar lo tl)
abbrev hz(sh:Sh)(S:HS)(lo:ζ LS)(g:Vf):CH:=hc sh S lo (ao sh g)
variable{lo:ζ LS}
theorem pG{k:Nat}:(ar lo tl)[k+(off lo-13)]?=tl[k]?:=by cases lo<;>rfl
theorem vC{k:Nat}{o:CO}:(ar lo tl).set (k+(off lo-13)) o=ar lo (tl.set k o):=by cases lo<;>rfl
theorem hoff{k:Nat}:k+off lo=k+(off lo-13)+13:=by cases lo<;>rfl
section
variable{S:HS}{rf:η (Key×CV)}{tl:CH}{l:LS}{lo:ζ LS}
theorem mh{κ:Type}[DecidableEq κ]{k:κ}:∀b:η (κ×Dt),lkC (dp b) k=(am (b.map (·.1)) (b.map (·.2)) k).map .g
 |[]=>rfl
 |p::b=>by
  have O:=mh (k:=k) b;by_cases h:p.1=k
  .simp[lkC,dp,am,qt9,h]
  .rwa[lkC,dp,qa3,qt9,h,decide_false,am,if_false]at O ⊢;exact O
theorem iy{κ:Type}[DecidableEq κ]{k:κ}{d:Dt}:∀b:η (κ×Dt),bc (dp b) k (.g d)=dp (aG b k d)
 |[]=>rfl
 |p::b=>by
  have O:=iy (k:=k) (d:=d) b;rwa[dp,qa3,bc,aG]at O ⊢;split
  .rfl
  .rw[O];rfl
omit x in
theorem gH{κ:Type}[DecidableEq κ]{k:κ}{d:Dt}{p:κ×Dt}:∀{b:η (κ×Dt)},p∈aG b k d->p=(k,d)\/p∈b
 |[],h=>by simp[aG]at h;exact .inl h
 |q::b,h=>by
  unfold aG at h;split at h
  .rename_i e;rcases qc3.mp h with rfl|h
   .exact .inl (by rw[e])
   .exact .inr (.tail _ h)
  .rcases qc3.mp h with rfl|h
   .exact .inr (.head _)
   .rcases gH h with h|h
    .exact .inl h
    .exact .inr (.tail _ h)
theorem fg{κ:Type}[DecidableEq κ]{k:κ}{d:Dt}:∀{b:η (κ×Dt)},(aG b k d).length<=b.length+1
 |[]=>by simp[aG]
 |q::b=>by
  unfold aG;split
  .simp
  .have:=fg (k:=k) (d:=d) (b:=b);simp;lia
omit x in
theorem aQ{κ:Type}[DecidableEq κ]{k:κ}{d:Dt}:∀{b:η (κ×Dt)},am (b.map (·.1)) (b.map (·.2)) k=ς d->(k,d)∈b
 |[],h=>by cases h
 |p::b,h=>by
  rwa[qa3,am]at h;split at h
  .rename_i e;cases h;rw[<- e];exact .head _
  .exact .tail _ (aQ h)
theorem vD{z:Int}{o:ζ Dt}(h:∀d,o=ς d->Vi d):(o.map CV.g).getD (I z)=I (iv z o)/\(Vn z->Vn (iv z o)):=by
 cases o with
 |none=>exact⟨rfl,id⟩
 |some d=>have⟨i,rfl,q⟩:=h d rfl;exact⟨rfl,λ_=>q⟩
theorem wv_n{f:Str->Int}(h:∀s,Vn (f s)){a:Key}(O:cZ a):Vn (wv f a):=by
 cases a with
 |inl i=>rcases O with h|⟨s,h⟩;exact h.n;cases h
 |inr s=>exact h s
theorem bv_n{b:η (Key×Dt)}{z:Int}(hz:Vn z)(h:∀p∈b,Vi p.2)(s:Str):Vn (bv b z s):=(vD λd e=>h _ (aQ e)).2 hz
theorem mi(O:∀p∈l.bx,Vi p.2)(a:Key):F27 [.ref 13,.g (aB a)] (hl S l rf tl)=ς (I (wv (bv l.bx l.du) a),hl S l rf tl):=by
 cases a with
 |inl i=>exact xR .nil
 |inr s=>have h2:=(vD (z:=l.du) λd e=>O _ (aQ (k:=qn1 s) e)).1;exact xR (.c 0 (show getV (hl S l rf tl) (.ref 14) (.str s) (I l.du)=ς (I (bv l.bx l.du s))by show ς ((lkC (dp l.bx) (.inr s)).getD (I l.du))=_;rw[mh,h2];rfl) .nil)
theorem mdI{v m q:Int}(h:v%m=q)(hm:0<m):oMod.g (.int v) (.int m)=ς (.f (.int q)):=by show(if 0<m then ς (T.f (.int (v%m)))else ψ)=_;rw[if_pos hm,h]
theorem ltI{a b:Int}(h:decide (a<b)=q):oLt.g (.int a) (.int b)=ς (.f (.bl q)):=by rw[<- h];rfl
theorem eqS{a b:Str}(h:decide (a=b)=q):oEq.g (.str a) (.str b)=ς (.f (.bl q)):=by rw[<- h];rfl
theorem rY{b:η (Key×Dt)}{x:Key}{v:Dt}(h:b.length<qa5):eN (.dK (dp b)) (aB x) (.g v)=ς (.dK (dp (aG b x v))):=by cases x<;>(show(if(dp b).length<qa5 then ς (CO.dK (bc (dp b) _ (.g v)))else ψ)=_;rw[if_pos (by rw[k4];exact h),iy])
theorem ixL{i p:Nat}{L:η Dt}{d:Dt}(h:ch[i]?=ς (.e (L.map .g)))(hp:L[p]?=ς d):ixV ch (.ref i) (.int p)=ς (.g d):=by have hl:=ai hp;show(ch[i]?).bind _=_;rw[h];show atI (L.map CV.g) (p:Int)=_;unfold atI;rw[qa6,show ixN L.length (p:Int)=ς p by unfold ixN;simp;lia];show(L.map CV.g)[p]?=_;rw[qa8,hp];rfl
theorem vlg:vw (hl S l rf tl) (.ref 15)=ς (.dcT (l.lg.map (·.1)) (l.lg.map (·.2))):=by show(dats ((dp l.lg).map (·.2))).map (Dt.dcT ((dp l.lg).map (·.1)))=_;rw[cC,cB];rfl
theorem pH{n p:Nat}(h:p<n):ixN n (p:Int)=ς p:=by unfold ixN;simp;lia
variable{sh:Sh}{g:Vf}{n:Str}{k m p:Nat}{v:Int}
theorem vE(O:∀p∈l.bx,Vi p.2)(a:Key)(hs:am S.x.sk S.x.sv (.inr n)=ς (.int m))(hm:0<m):F40 [.ref 0,.g (.str n),.g (aB a)] (hl S l rf tl)=ς (I (wv (bv l.bx l.du) a%m).toNat,hl S l rf tl):=by have h1:=mi (S:=S) (rf:=rf) (tl:=tl) O a;have h2:=qg5 (wv (bv l.bx l.du) a) (show(m:Int)≠0 by lia);exact xR (.v 0 h1 (.c 0 (show ixV (hl S l rf tl) (.g (.dct S.x.sk S.x.sv)) (.str n)=ς (I m)by show(ixD _ _).map CV.g=_;simp[ixD,bQ,cJ,hs]) (.t 0 (mdI (v:=wv (bv l.bx l.du) a) (m:=m) (q:=((wv (bv l.bx l.du) a%m).toNat:Int)) Θ Θ) .nil)))
theorem vF(U:(sh.map (·.1)).Nodup)(O:sh[k]?=ς (n,m)):ixV (hz sh S lo g) (.ref 4) (.str n)=ς (.ref (k+off lo)):=k8 U O
theorem vG(O:sh[k]?=ς (n,m)):(hz sh S lo g)[k+off lo]?=ς (dl (row g (n,m))):=by rw[hoff];show(ar lo (ao sh g))[k+(off lo-13)]?=_;rw[pG];exact iw O
theorem Dj(U:(sh.map (·.1)).Nodup)(O:sh[k]?=ς (n,m))(hp:p<m):F44 [.ref 1,.g (.str n),I p] (hz sh S lo g)=ς (I (g n p),hz sh S lo g):=xR (.c 0 (vF (S:=S) (lo:=lo) (g:=g) U O) (.c 0 (ixL (ch:=hz sh S lo g) (i:=k+off lo) (vG O) (k9 hp)) .nil))
theorem pI(U:(sh.map (·.1)).Nodup)(O:sh[k]?=ς (n,m))(hp:p<m):F30 [.ref 1,.g (.str n),I p,I v] (hz sh S lo g)=ς (.g .non,hz sh S lo (fu g n p v)):=by have:=C6 (S:=S) (lv:=lvO lo) (k:=k+(off lo-13)) (l:=row g (n,m)) (v:=.int v) (rf:=ae (off lo) sh) (n:=n) (p:=p) (tl:=ar lo (ao sh g)) (by rw[<- hoff];exact k8 U O) (by rw[pG];exact iw O) ‹hp›;rw[vC,rX U O]at this;exact this
theorem mj(Y:∀q∈l.lg,Vi q.2)(W:∀n p,Vn (g n p))(hn:(sh.map (·.1)).Nodup)(Z:sh[k]?=ς (n,m))(hp:p<m):∃v,Vn v/\F45 [.ref 0,.g (.str n),I p] (hz sh S (ς l) g)=ς (I v,hz sh S (ς l) g):=by
 have O:oIn.g (.t [.str n,.int p]) (.dcT (l.lg.map (·.1)) (l.lg.map (·.2)))=ς (.f (.bl (am (l.lg.map (·.1)) (l.lg.map (·.2)) [qn1 n,qm6 (p:Int)]).isSome)):=rfl;cases q:am (l.lg.map (·.1)) (l.lg.map (·.2)) [qn1 n,qm6 (p:Int)]with
 |some d=>have⟨i,rfl,h2⟩:=Y _ (aQ q);rw[q]at O;exact⟨i,h2,xR (.d 0 (vlg (S:=S) (l:=l) (rf:=ae 16 sh) (tl:=ao sh g)) (.t 0 O (.c 0 (show ixV (hz sh S (ς l) g) (.ref 15) (.t [.str n,.int p])=ς (I i)by show lkC (dp l.lg) _=_;rw[mh,q];rfl) .nil)))⟩
 |none=>have U:=Dj (S:=S) (lo:=ς l) (g:=g) hn Z hp;rw[q]at O;exact⟨_,W n p,xR (.d 0 (vlg (S:=S) (l:=l) (rf:=ae 16 sh) (tl:=ao sh g)) (.t 0 O (.v 0 U .nil)))⟩
theorem vH(W:∀d∈S.x.tw,∃s,d=.str s)(Z:(sh.map (·.1)).Nodup)(Y:sh[k]?=ς (n,m))(hp:p<m)(O:l.lg.length<qa5):F39 [.ref 0,.g (.str n),I p,I v] (hz sh S (ς l) g)=ς (.g .non,hz sh S (ς {l with lg:=aG l.lg [.inr n,.inl p] (.int v)}) g)\/F39 [.ref 0,.g (.str n),I p,I v] (hz sh S (ς l) g)=ς (.g .non,hz sh S (ς l) (fu g n p v)):=by
 have hf:S.x.tw.all aN=θ:=qc0.mpr λd U=>by have⟨s,rfl⟩:=W d U;rfl
 have hi:oIn.g (.str n) (.e S.x.tw)=ς (.f (.bl (S.x.tw.any λy=>eqF y (.str n)))):=by
  have:inD (.str n) (.e S.x.tw)=ς (S.x.tw.any λy=>eqF y (.str n)):=by show(if(θ&&S.x.tw.all aN)=θ then ς (S.x.tw.any λy=>eqF y (.str n))else ψ)=_;rw[hf];rfl
  show orO (gIn ξ) (rV ξ) _ _=_;unfold orO gIn;rw[this];rfl
 cases q:S.x.tw.any λy=>eqF y (.str n)with
 |true=>rw[q]at hi;exact .inl (xR (.t 0 hi (.p 0 (show eN (.dT (dp l.lg)) (.t [.str n,.int p]) (I v)=ς (.dT (dp (aG l.lg [.inr n,.inl p] (.int v))))by show(if(dp l.lg).length<qa5 then ς (CO.dT (bc (dp l.lg) [.inr n,.inl (p:Int)] (I v)))else ψ)=_;rw[if_pos (by rw[k4];exact O),iy]) .nil)))
 |false=>rw[q]at hi;exact .inr (xR (.t 0 hi (.v 0 (pI (S:=S) (lo:=ς l) (g:=g) (v:=v) Z Y hp) .nil)))
theorem vn0:Vn 0:=by constructor<;>decide
theorem rZ(hi:∀d∈S.x.inc,Vi d)(U:0<=l.he):∃v,Vn v/\F46 [.ref 0] (hl S l rf tl)=ς (I v,hl S {l with he:=l.he+1} rf tl):=by
 by_cases h:l.he<S.x.inc.length
 .have⟨p,hp⟩:=qf4 U;have O:p<S.x.inc.length:=by lia
  have⟨i,h1,h2⟩:=hi S.x.inc[p] (ql7 O);have W:ixV (hl S {l with he:=l.he+1} rf tl) (.g (.e S.x.inc)) (.int l.he)=ς (I i):=by show(ixD _ _).map CV.g=_;rw[hp];simp[ixD,bQ,gIx,atI,pH O,O,h1]
  exact⟨i,h2,xR (.t 1 (ltI (b:=(S.x.inc.length:Int)) (decide_eq_true h)) (.c 0 W .nil))⟩
 .exact⟨0,vn0,xR (.t 1 (ltI (b:=(S.x.inc.length:Int)) (decide_eq_false h)) .nil)⟩
theorem vI{sg:Str}{a b:Int}(hb':Vn b):∃v,Vn v/\F43 [.g (.str sg),I a,I b] ch=ς (I v,ch):=by
 have key:∃v,F42 [.g (.str sg),I a,I b] ch=ς (I v,ch):=by
  have hm:oMul.g (.int a) (.int b)=ς (.f (.int (a*b))):=by simp[oMul,orO,hJ,kg (i:=a) (j:=b) Θ Θ]
  have lt:=ltI (a:=a) (b:=b) rfl;have eq:=eqI (a:=a) (b:=b) rfl;have O:=eqS (a:=sg) (b:=qd0 "+") rfl;have e2:=eqS (a:=sg) (b:=qd0 "-") rfl;have U:=eqS (a:=sg) (b:=qd0 "*") rfl;have W:=eqS (a:=sg) (b:=qd0 "<") rfl;have Y:=eqS (a:=sg) (b:=qd0 "=") rfl;have Z:=eqS (a:=sg) (b:=qd0 "&") rfl;have e7:=eqS (a:=sg) (b:=qd0 "|") rfl;generalize decide (a<b)=c0 at lt;generalize decide (a=b)=c8 at eq;generalize decide (sg=qd0 "+")=c1 at O;generalize decide (sg=qd0 "-")=c2 at e2;generalize decide (sg=qd0 "*")=c3 at U;generalize decide (sg=qd0 "<")=c4 at W;generalize decide (sg=qd0 "=")=c5 at Y;generalize decide (sg=qd0 "&")=c6 at Z;generalize decide (sg=qd0 "|")=c7 at e7;cases c1
  .cases c2
   .cases c3
    .cases c4
     .cases c5
      .cases c6
       .cases c7
        .exact⟨iv 0 ((oXor.g (.int a) (.int b)).bind T.d),xR (.t 0 O (.t 0 e2 (.t 0 U (.t 0 W (.t 0 Y (.t 0 Z (.t 0 e7 .nil)))))))⟩
        .exact⟨iv 0 ((oBor.g (.int a) (.int b)).bind T.d),xR (.t 0 O (.t 0 e2 (.t 0 U (.t 0 W (.t 0 Y (.t 0 Z (.t 0 e7 .nil)))))))⟩
       .exact⟨iv 0 ((oBan.g (.int a) (.int b)).bind T.d),xR (.t 0 O (.t 0 e2 (.t 0 U (.t 0 W (.t 0 Y (.t 0 Z .nil))))))⟩
      .exact⟨if c8 then 1 else 0,by cases c8<;>exact xR (.t 0 O (.t 0 e2 (.t 0 U (.t 0 W (.t 0 Y (.t 0 eq .nil))))))⟩
     .exact⟨if c0 then 1 else 0,by cases c0<;>exact xR (.t 0 O (.t 0 e2 (.t 0 U (.t 0 W (.t 0 lt .nil)))))⟩
    .exact⟨a*b,xR (.t 0 O (.t 0 e2 (.t 0 U (.t 0 hm .nil))))⟩
   .exact⟨a-b,xR (.t 0 O (.t 0 e2 .nil))⟩
  .exact⟨a+b,xR (.t 0 O .nil)⟩
 have⟨v,h⟩:=key;exact⟨v%1099511627776,by constructor<;>lia,xR (.v 0 h .nil)⟩
end
variable{y:Str}
theorem Dk{x:Str}(h:x.length+y.length<=qa5):eG (.str x) (.str y)=ς (.f (.str (x++y))):=if_pos h
theorem Fo{x:Str}{i:Int}(h:x.length<=qa5):gIxA (.str x) (.int i)=(atI x.cps.toList i).map λc=>.f (.str ⟨#[c]⟩):=if_pos h
theorem pJ{n:Nat}(h:n<=1000000):n<=qa5:=qd7 h Ω
theorem z0{lo:Int}{n:Nat}:(ay lo n).length=n:=by simp[ay]
noncomputable def kTBq(b:Bool):De->ζ T:=λ_=>ς (.f (.bl b))
theorem nS(cs:η Nat):zg1 "" (cs.map λc=>(⟨#[c]⟩:Str))=⟨cs.toArray⟩:=by
 have U:("":Str).cps=#[]:=by decide +kernel
 have go:∀(l:η Nat)(O:Array Nat),(l.map λc=>(⟨#[c]⟩:Str)).foldl (λO p=>O++("":Str).cps++p.cps) O=O++l.toArray:=by
  intro l;induction l with
  |nil=>intro O;simp
  |cons c l W=>intro O;rw[qa3,qs6,W,U];simp
 unfold zg1 qj8.Str.glued;cases cs with
 |nil=>rfl
 |cons c r=>show(⟨(r.map λc=>(⟨#[c]⟩:Str)).foldl (λO p=>O++("":Str).cps++p.cps) (#[c]:Array Nat)⟩:Str)=_;rw[go];simp
theorem lb(cs:η Nat)(h:cs.length<=1000):JoinOk "" (cs.map λc=>(⟨#[c]⟩:Str))=θ:=by
 unfold JoinOk
 have h1:∀y∈cs.map (λc=>(⟨#[c]⟩:Str)),y.length<=1:=λy O=>by have⟨c,_,rfl⟩:=qb9.mp O;exact nL _
 rw[StrLaws.joinFits h1 (by rw[qa6,show("":Str).length=0 by decide +kernel];lia)];rfl
theorem ee:∀ts:η Str,cT (ts.map .str)=ς ts
 |[]=>rfl
 |t::r=>by show(cT (r.map .str)).map (t::·)=_;rw[ee r];rfl
noncomputable def sgD(cs:η Nat):η Dt:=cs.map λc=>.str ⟨#[c]⟩
theorem vJ{cs:η Nat}(h:cs.length<=1000):kl (.str "") [.e (sgD cs)]=ς (.f (.str ⟨cs.toArray⟩)):=by
 have e:sgD cs=(cs.map λc=>(⟨#[c]⟩:Str)).map .str:=by unfold sgD;rw[qd1];rfl
 show(cT (sgD cs)).bind _=_;rw[e,ee,qa0,if_pos (lb cs h),nS]
theorem Dl{α:Type}{xs:η α}{i:Int}(U:0<=i)(h1:i<xs.length):∃v,atI xs i=ς v/\v∈xs:=by
 have⟨n,rfl⟩:=qf4 U;have O:n<xs.length:=by lia
 exact⟨xs[n],w9 (by simp[O]),ql7 O⟩
theorem yL(x:Str):x.length=x.cps.toList.length:=by show x.cps.size=_;simp
theorem yM{x:Str}{i:Int}(hl:x.length<=1000000)(O:0<=i)(h1:i<x.length):∃c,gIxA (.str x) (.int i)=ς (.f (.str ⟨#[c]⟩))/\c∈x.cps.toList:=by have⟨c,e,U⟩:=Dl (xs:=x.cps.toList) O (by rw[<- yL];exact h1);refine⟨c,?_,U⟩;rw[Fo (pJ hl),e];rfl
inductive Rw where
 |op (x sg:Str) (a b:Key)|load (x n:Str)|store (n:Str) (a:Key)|take (x n:Str) (a:Key)|lay (n:Str) (a b:Key)|copy (x:Str) (a:Key)|hear (x:Str)|say (a:Key)|ife (x:Str) (t:Int)|go (t:Int)|fin (a:Key)
noncomputable def Rw.d:Rw->Dt
 |.op x O a b=>.t [.str "op",.str x,.str O,aB a,aB b]
 |.load x n=>.t [.str "load",.str x,.str n]
 |.store n a=>.t [.str "store",.str n,aB a]
 |.take x n a=>.t [.str "take",.str x,.str n,aB a]
 |.lay n a b=>.t [.str "lay",.str n,aB a,aB b]
 |.copy x a=>.t [.str "copy",.str x,aB a]
 |.hear x=>.t [.str "hear",.str x]
 |.say a=>.t [.str "say",aB a]
 |.ife x t=>.t [.str "if",.str x,.int t]
 |.go t=>.t [.str "go",.int t]
 |.fin a=>.t [.str "end",aB a]
def Vp(sh:Sh)(n:Str)(p:Nat):Prop:=∃(k m:Nat),sh[k]?=ς (n,m)/\p<m
def yN(x:Fx)(sh:Sh)(n:Str):Prop:=∃(k m:Nat),sh[k]?=ς (n,m)/\0<m/\am x.sk x.sv (.inr n)=ς (.int m)
def Dm(x:Fx)(sh:Sh):Rw->Prop
 |.op _ _ a b=>cZ a/\cZ b
 |.load _ n=>Vp sh n 0
 |.store n a=>Vp sh n 0/\cZ a
 |.take _ n a=>yN x sh n/\cZ a
 |.lay n a b=>yN x sh n/\cZ a/\cZ b
 |.copy _ a|.say a|.fin a=>cZ a
 |.hear _|.ife _ _|.go _=>True
structure XOk(x:Fx)(sh:Sh):Prop where
 nd:(sh.map (·.1)).Nodup
 tw:∀d∈x.tw,∃s,d=.str s
 inc:∀d∈x.inc,Vi d
noncomputable def z6:Rw->Bool
 |.op _ _ _ _|.load _ _|.take _ _ _|.copy _ _|.hear _=>θ
 |_=>ξ
def Rw.x:Rw->Str
 |.op x _ _ _|.load x _|.take x _ _|.copy x _|.hear x=>x
 |_=>qd0 ""
def Rw.he:Rw->Int
 |.hear _=>1
 |_=>0
def Rw.sy:Rw->Int
 |.say _=>1
 |_=>0
structure LOk(sh:Sh)(N:Nat)(l:LS):Prop where
 he:0<=l.he
 du:Vn l.du
 bx:∀p∈l.bx,Vi p.2
 bn:l.bx.length<=N
 lg:∀q∈l.lg,(∃(n:Str)(p:Nat),q.1=[.inr n,.inl (p:Int)]/\Vp sh n p)/\Vi q.2
 ln:l.lg.length<=N
structure FOk(N:Nat)(f:List (Key×Dt)):Prop where
 all:∀p∈f,(∃i,p.1=.inl i)/\Vi p.2
 len:f.length<=N
structure Did(sh:Sh)(N:Nat)(r:Rw)(l l':LS):Prop where
 ok:LOk sh (N+1) l'
 pl:l'.pl=l.pl
 dn:l'.dn=l.dn
 he:l'.he=l.he+r.he
 sy:l'.sy=l.sy+r.sy
 du:l'.du=l.du
 bx:∀s,s≠r.x->bv l'.bx l.du s=bv l.bx l.du s
section
variable{S:HS}{l:LS}{sh:Sh}{N:Nat}{g:Vf}
theorem LOk.bN(h:LOk sh N l)(s:Str):Vn (bv l.bx l.du s):=bv_n h.du h.bx s
theorem LOk.wa(h:LOk sh N l)(a:Key):F27 [.ref 13,.g (aB a)] (hz sh S (ς l) g)=ς (I (wv (bv l.bx l.du) a),hz sh S (ς l) g):=mi (rf:=ae 16 sh) (tl:=ao sh g) h.bx a
theorem Dn{v:Int}(h:0<m):(v%m).toNat<m:=by have h2:=qg5 v (show(m:Int)≠0 by lia);have O:=qf9 v (show(0:Int)<m by lia);lia
theorem LOk.place(h:LOk sh N l){n:Str}(hs:yN S.x sh n)(a:Key):∃p,Vp sh n p/\F40 [.ref 0,.g (.str n),.g (aB a)] (hz sh S (ς l) g)=ς (I p,hz sh S (ς l) g):=by have⟨k,m,h1,h2,O⟩:=hs;exact⟨_,⟨k,m,h1,Dn h2⟩,vE (S:=S) (rf:=ae 16 sh) (tl:=ao sh g) h.bx a O h2⟩
omit x in
theorem Do(r:Rw)(hs:z6 r=θ)(X:XOk S.x sh)(W:Dm S.x sh r)(h:LOk sh N l)(Z:∀n p,Vn (g n p)):∃v,Vn v/\F47 [.ref 0,.g r.d] (hz sh S (ς l) g)=ς (I v,hz sh S (ς {l with he:=l.he+r.he}) g):=by
 have same:({l with he:=l.he+0}:LS)=l:=by rw[qs2]
 have wa:=λa=>h.wa (S:=S) (g:=g) a
 have wn:=λa ha=>wv_n (f:=bv l.bx l.du) h.bN (a:=a) ha
 cases r<;>try(cases hs;done)
 .rename_i x sg a b;have⟨z,O,U⟩:=vI (sg:=sg) (a:=wv (bv l.bx l.du) a) (b:=wv (bv l.bx l.du) b) (ch:=hz sh S (ς l) g) (wn b W.2);refine⟨z,O,?_⟩;rwa[Rw.he];rw[same];exact xR (.v 0 (wa a) (.v 0 (wa b) (.v 0 U .nil)))
 .rename_i x n;have⟨k,m,h1,h2⟩:=W;have⟨z,O,U⟩:=mj (S:=S) (λq Y=>(h.lg q Y).2) Z X.nd h1 h2;refine⟨z,O,?_⟩;rwa[Rw.he];rw[same];exact xR (.v 0 (w:=F45 [.ref 0,.g (.str n),.g (.int 0)] (hz sh S (ς l) g)) U .nil)
 .rename_i x n a;have⟨p,⟨k,m,h1,h2⟩,h4⟩:=h.place (S:=S) (g:=g) W.1 a;have⟨z,O,U⟩:=mj (S:=S) (λq Y=>(h.lg q Y).2) Z X.nd h1 h2;refine⟨z,O,?_⟩;rwa[Rw.he];rw[same];exact xR (.v 0 h4 (.v 0 U .nil))
 .rename_i x a;refine⟨_,wn a W,?_⟩;rwa[Rw.he];rw[same];exact xR (.v 0 (wa a) .nil)
 .have⟨v,hv,h1⟩:=rZ (S:=S) (l:=l) (rf:=ae 16 sh) (tl:=ao sh g) X.inc h.he;exact⟨v,hv,xR (.v 0 h1 .nil)⟩
theorem vfs{lv':CV}:vw (hb S lv' rf tl) (.ref 8)=ς (.dct (S.fst.map (·.1)) (S.fst.map (·.2))):=by show(dats ((dp S.fst).map (·.2))).map (Dt.dct ((dp S.fst).map (·.1)))=_;rw[cC,cB];rfl
theorem yO{i v:Int}(W:FOk N S.fst)(hN:N<qa5)(hv:Vn v):∃f u,FOk (N+1) f/\F41 [.ref 2,I i,I v] (hz sh S lo g)=ς (.g .non,hz sh {S with fst:=f,unl:=u} lo g):=by
 have O:oNi.g (.int i) (.dct (S.fst.map (·.1)) (S.fst.map (·.2)))=ς (.f (.bl (!(am (S.fst.map (·.1)) (S.fst.map (·.2)) (qm6 i)).isSome))):=rfl;have Y:=vfs (S:=S) (tl:=ar lo (ao sh g)) (lv':=lvO lo) (rf:=ae (off lo) sh);cases q:am (S.fst.map (·.1)) (S.fst.map (·.2)) (qm6 i)with
 |none=>
  rw[q]at O;refine⟨aG S.fst (.inl i) (.int v),S.unl,⟨λp hp=>?_,qd7 fg (qu9 W.len)⟩,?_⟩
  .rcases gH hp with rfl|hp
   .exact⟨⟨i,rfl⟩,hv.i⟩
   .exact W.all p hp
  exact xR (.d 0 Y (.t 0 O (.p 0 (rY (b:=S.fst) (x:=.inl i) (v:=.int v) (qk1 W.len hN)) .nil)))
 |some d=>
  rw[q]at O;have F':FOk (N+1) S.fst:=⟨W.all,qd9 W.len⟩;have⟨_,a,rfl,ha⟩:=W.all _ (aQ q);have Z:ixV (hz sh S lo g) (.ref 8) (.int i)=ς (I a):=by show lkC (dp S.fst) _=_;rw[mh,q];rfl
  have U:oNe.g (.int a) (.int v)=ς (.f (.bl (!decide (a=v)))):=rfl;cases w:decide (a=v)with
  |true=>rw[w]at U;exact⟨S.fst,S.unl,F',xR (.d 0 Y (.t 0 O (.c 0 Z (.t 0 U .nil))))⟩
  |false=>rw[w]at U;exact⟨S.fst,θ,F',xR (.d 0 Y (.t 0 O (.c 0 Z (.t 0 U .nil))))⟩
theorem LOk.up(h:LOk sh N l):LOk sh (N+1) l:=⟨h.he,h.du,h.bx,qd9 h.bn,h.lg,qd9 h.ln⟩
theorem FOk.up{f:η (Key×Dt)}(h:FOk N f):FOk (N+1) f:=⟨h.all,qd9 h.len⟩
theorem Dp{n:Str}{p:Nat}{v:Int}(U:∀n p,Vn (g n p))(O:Vn v):∀n' p',Vn (fu g n p v n' p'):=λn' p'=>by unfold fu;split;exact O;exact U n' p'
theorem Dq(r:Rw)(hs:∀a,r≠.fin a)(X:XOk S.x sh)(hr:Dm S.x sh r)(Y:FOk N S.fst)(h:LOk sh N l)(W:∀n p,Vn (g n p))(hN:N<qa5):∃f u U g',F48 [.ref 0,.g r.d] (hz sh S (ς l) g)=ς (.g .non,hz sh {S with fst:=f,unl:=u} (ς U) g')/\FOk (N+1) f/\Did sh N r l U/\∀n p,Vn (g' n p):=by
 have wa:=λa=>h.wa (S:=S) (g:=g) a
 have wn:=λa ha=>wv_n (f:=bv l.bx l.du) h.bN (a:=a) ha
 have O:l.bx.length<qa5:=qk1 h.bn hN;have no:r.he=0->r.sy=0->Did sh N r l l:=λe1 e2=>⟨h.up,rfl,rfl,by rw[e1,qs2],by rw[e2,qs2],rfl,λ_ _=>rfl⟩
 have set:z6 r=θ->(∀v,F47 [.ref 0,.g r.d] (hz sh S (ς l) g)=ς (I v,hz sh S (ς {l with he:=l.he+r.he}) g)->F48 [.ref 0,.g r.d] (hz sh S (ς l) g)=ς (.g .non,hz sh S (ς {l with he:=l.he+r.he,bx:=aG l.bx (.inr r.x) (.int v)}) g))->∃f u U g',F48 [.ref 0,.g r.d] (hz sh S (ς l) g)=ς (.g .non,hz sh {S with fst:=f,unl:=u} (ς U) g')/\FOk (N+1) f/\Did sh N r l U/\∀n p,Vn (g' n p):=λZ e=>by
  have⟨v,hv,h1⟩:=Do r Z X hr h W;refine⟨S.fst,S.unl,_,g,e v h1,Y.up,⟨⟨?_,h.du,λp hp=>?_,qd7 fg (qu9 h.bn),h.lg,qd9 h.ln⟩,rfl,rfl,rfl,?_,rfl,λs hs=>?_⟩,W⟩
  .have:=h.he;cases r<;>rwa[Rw.he]<;>lia
  .rcases gH hp with rfl|hp
   .exact hv.i
   .exact h.bx p hp
  .cases r<;>first|(cases Z;done)|exact(qs2 _).symm
  .show lv _ _ _=_;rw[Dh,if_neg (λe=>hs (qv9 e).symm)]
 have wr:∀{n:Str}{p:Nat}{v:Int},r.he=0->r.sy=0->Vn v->Vp sh n p->∃U g',F39 [.ref 0,.g (.str n),I p,I v] (hz sh S (ς l) g)=ς (.g .non,hz sh S (ς U) g')/\Did sh N r l U/\∀n p,Vn (g' n p):=λ{n p v} e1 e2 hv hp=>by
  have⟨k,m,h1,h2⟩:=id hp;rcases vH (S:=S) (l:=l) (g:=g) (v:=v) X.tw X.nd h1 h2 (qk1 h.ln hN)with e|e
  .refine⟨_,_,e,⟨⟨h.he,h.du,h.bx,qd9 h.bn,λq Z=>?_,qd7 fg (qu9 h.ln)⟩,rfl,rfl,by rw[e1,qs2],by rw[e2,qs2],rfl,λ_ _=>rfl⟩,W⟩;rcases gH Z with rfl|Z
   .exact⟨⟨n,p,rfl,hp⟩,hv.i⟩
   .exact h.lg q Z
  .exact⟨_,_,e,no e1 e2,Dp W hv⟩
 cases r with
 |op x sg p q=>exact set rfl λv h1=>xR (.v 0 h1 (.p 0 (rY (b:=l.bx) (x:=.inr x) (v:=.int v) O) .nil))
 |load x n=>exact set rfl λv h1=>xR (.v 0 h1 (.p 0 (rY (b:=l.bx) (x:=.inr x) (v:=.int v) O) .nil))
 |take x n p=>exact set rfl λv h1=>xR (.v 0 h1 (.p 0 (rY (b:=l.bx) (x:=.inr x) (v:=.int v) O) .nil))
 |copy x p=>exact set rfl λv h1=>xR (.v 0 h1 (.p 0 (rY (b:=l.bx) (x:=.inr x) (v:=.int v) O) .nil))
 |hear x=>exact set rfl λv h1=>xR (.v 0 h1 (.p 0 (rY (b:=l.bx) (x:=.inr x) (v:=.int v) O) .nil))
 |store n p=>have⟨U,g',h2,h3,h4⟩:=wr rfl rfl (wn p hr.2) hr.1;exact⟨S.fst,S.unl,U,g',xR (.v 0 (wa p) (.v 0 (w:=F39 [.ref 0,.g (.str n),.g (.int 0),I (wv (bv l.bx l.du) p)] (hz sh S (ς l) g)) h2 .nil)),Y.up,h3,h4⟩
 |lay n p q=>have⟨z,hp,h5⟩:=h.place (S:=S) (g:=g) hr.1 p;have⟨U,g',h2,h3,h4⟩:=wr rfl rfl (wn q hr.2.2) hp;exact⟨S.fst,S.unl,U,g',xR (.v 0 h5 (.v 0 (wa q) (.v 0 h2 .nil))),Y.up,h3,h4⟩
 |say p=>have⟨f,u,h1,h2⟩:=yO (sh:=sh) (g:=g) (lo:=ς l) (i:=l.sy) Y hN (wn p hr);exact⟨f,u,{l with sy:=l.sy+1},g,xR (r:=(_,hz sh {S with fst:=f,unl:=u} (ς {l with sy:=l.sy+1}) g)) (.v 0 (wa p) (.v 0 h2 .nil)),h1,⟨⟨h.he,h.du,h.bx,qd9 h.bn,h.lg,qd9 h.ln⟩,rfl,rfl,(qs2 _).symm,rfl,rfl,λ_ _=>rfl⟩,W⟩
 |ife x t=>exact⟨S.fst,S.unl,l,g,xR .nil,Y.up,no rfl rfl,W⟩
 |go t=>exact⟨S.fst,S.unl,l,g,xR .nil,Y.up,no rfl rfl,W⟩
 |fin a=>exact absurd rfl (hs a)
end
noncomputable def r0(i:Nat):Rw->Dt
 |.go t=>.t [.int t]
 |.ife _ t=>.t [.int t,.int (i+1)]
 |.fin _=>.t []
 |_=>.t [.int (i+1)]
def ml(i:Nat)(r:Rw)(p:Int):Prop:=match r with
 |.go t=>p=t
 |.ife _ t=>p=t\/p=i+1
 |.fin _=>False
 |_=>p=i+1
variable{r:Rw}
section
variable{S:HS}{l:LS}{sh:Sh}{N:Nat}{g:Vf}
theorem gJ{L:η Dt}{i:Nat}{d:Dt}(h:L[i]?=ς d):ixD (.e L) (.int i)=ς d/\ixD (.t L) (.int i)=ς d:=by have hi:=ai h;constructor<;>simp[ixD,bQ,gIx,atI,pH hi,h]
theorem gK{L:η Dt}{i:Nat}{d:Dt}{z:Int}(hz:z=i)(h:L[i]?=ς d):ixV ch (.g (.e L)) (.int z)=ς (.g d)/\ixV ch (.g (.t L)) (.int z)=ς (.g d):=by
 subst hz;constructor
 .show(ixD _ _).map CV.g=_;rw[(gJ h).1];rfl
 .show(ixD _ _).map CV.g=_;rw[(gJ h).2];rfl
noncomputable def kd:Rw->Str
 |.op _ _ _ _=>"op"
 |.load _ _=>"load"
 |.store _ _=>"store"
 |.take _ _ _=>"take"
 |.lay _ _ _=>"lay"
 |.copy _ _=>"copy"
 |.hear _=>"hear"
 |.say _=>"say"
 |.ife _ _=>"if"
 |.go _=>"go"
 |.fin _=>"end"
theorem z7:ixV ch (.g r.d) (.int 0)=ς (.g (.str (kd r))):=by cases r<;>kernel_rfl
theorem Fp(hs:∀a,r≠.fin a):oEq.g (.str (kd r)) (.str "end")=ς (.f (.bl ξ)):=by cases r<;>first|exact absurd rfl (hs _)|kernel_rfl
theorem behind(r:Rw)(hs:∀a,r≠.fin a){i:Nat}(hi:l.pl=i)(W:S.x.onw[i]?=ς (r0 i r))(h:LOk sh N l):∃p,ml i r p/\F49 [.ref 0,.g r.d] (hz sh S (ς l) g)=ς (I p,hz sh S (ς l) g):=by
 have O:=(gK (ch:=hz sh S (ς l) g) hi W).1;cases r with
 |ife x t=>
  have h1:=h.wa (S:=S) (g:=g) (.inr x);by_cases U:bv l.bx l.du x=0
  .exact⟨i+1,.inr rfl,xR (.c 0 O (.v 0 h1 (.t 0 (eqI (decide_eq_true U)) .nil)))⟩
  .exact⟨t,.inl rfl,xR (.c 0 O (.v 0 h1 (.t 0 (eqI (decide_eq_false U)) .nil)))⟩
 |go t=>exact⟨t,rfl,xR (.c 0 O .nil)⟩
 |fin a=>exact absurd rfl (hs a)
 |_=>exact⟨i+1,rfl,xR (.c 0 O .nil)⟩
theorem vK{b:Str->Int}(w:∀s,F27 [.ref 13,.g (.str s)] ch=ς (I (b s),ch)){f:η CV}(O:ch[13]?=ς (.ins 1 f))(bs:η Str):aE (bnd (.one 0)) tYs (eTu (aCn (eK (.str "box")) (aCn (eV 0) (aCn (eMe 1 2 F27 (eV 1) (aCn (eV 0) aNl)) aNl)))) [ψ,ς (.ref 13)] (bs.map .str) ch=ς (bs.map λs=>.g (Sm.d (.box s (b s))),ch):=bH (f:=Dt.str) (g:=λs=>Sm.d (.box s (b s))) λs _=>⟨_,rfl,rfl,by simp[eTu,aCn,aNl,eK,eV,eMe,kCa,lent,O,w s,CV.old,dats,qc1,Sm.d]⟩
def lgK(ts:η Tn):η (η Key×Dt):=ts.map λt=>([.inr t.1.1,.inl (t.1.2:Int)],.int t.2)
theorem vL{q:Str->Nat->Prop}:∀{lg:η (η Key×Dt)},(∀e∈lg,(∃(n:Str)(p:Nat),e.1=[.inr n,.inl (p:Int)]/\q n p)/\Vi e.2)->∃ts:η Tn,lg=lgK ts/\∀t∈ts,q t.1.1 t.1.2/\Vn t.2
 |[],_=>⟨[],rfl,Ξ⟩
 |e::lg,h=>by
  have⟨ts,h1,W⟩:=vL λq U=>h q (.tail _ U)
  have⟨⟨n,p,h4,h5⟩,i,Y,Z⟩:=h e (.head _);have⟨q1,q2⟩:=e;cases h4;cases Y;exact⟨((n,p),i)::ts,by rw[h1];rfl,λt O=>by rcases qc3.mp O with rfl|O;exact⟨h5,Z⟩;exact W t O⟩
theorem mn:∀{ts:η Tn},dR (lgK ts)=ts.map Tn.d
 |[]=>rfl
 |t::ts=>by have:=mn (ts:=ts);rwa[dR,lgK,qa3]at this ⊢;rw[this];rfl
def dG(a:Nat)(b c d:Int)(ks:η Bx)(ts:η Tn):η Sm:=Sm.beg a b c d::(ks.map λk=>.box k.1 k.2)++nO ts++[.trn]++bI ts
theorem yP{bs:η Str}{ts:η Tn}{i:Nat}(hi:l.pl=i)(h:LOk sh N l)(ht:l.lg=lgK ts)(hN:N+bs.length<1000000):F50 [.ref 13,.g (.t (bs.map .str))] (hz sh S (ς l) g)=ς (.ref ((ao sh g).length+16),hl S l (ae 16 sh) (ao sh g++[dl ((dG i l.dn l.he l.sy (bs.map λs=>(s,bv l.bx l.du s)) ts).map Sm.d)])):=by
 have k3:=vK (b:=bv l.bx l.du) (ch:=hz sh S (ς l) g) (λs=>h.wa (.inr s)) rfl bs;have t1:dR l.lg=ts.map Tn.d:=by rw[ht,mn]
 have hts:ts.length<=N:=by have:=h.ln;rw[ht]at this;simpa[lgK] using this
 have n1:=λk=>mf (ch:=hz sh S (ς l) g) (k:=k) (ts:=ts) (by rw[qc1];lia)
 rw[<- t1]at n1;have hz':((dp l.lg).map (·.1)).zip (l.lg.map (·.2))=l.lg:=nN;have hb0:Sm.d (.beg i l.dn l.he l.sy)=.t [.str "begin",.int l.pl,.int l.dn,.int l.he,.int l.sy]:=by rw[hi];rfl
 obtain⟨U,O⟩:∃U:Dt,U=.t [.str "begin",.int l.pl,.int l.dn,.int l.he,.int l.sy]:=⟨_,rfl⟩;let B:η Dt:=bs.map λs=>Sm.d (.box s (bv l.bx l.du s))
 have W:eCo .v [ψ,ς 0] (iE (eV 1)) (bnd (.one 0)) tYs (eTu (aCn (eK (.str "box")) (aCn (eV 0) (aCn (eMe 1 2 F27 (eV 1) (aCn (eV 0) aNl)) aNl)))) [ς (.ref 13),ς (.g (.t (bs.map .str))),ς (.g (.e [U])),ψ,ψ] (hz sh S (ς l) g)=ς (.g (.e B),hz sh S (ς l) g):=by unfold eCo;have:iE (eV 1) [ς (.ref 13),ς (.g (.t (bs.map .str))),ς (.g (.e [U])),ψ,ψ] (hz sh S (ς l) g)=ς (bs.map .str,hz sh S (ς l) g):=rfl;rw[this,qa0];show((aE _ _ _ [ψ,ς (.ref 13)] _ _).bind _)=_;rw[k3,qa0];dsimp only;rw[if_pos (by rw[qa6,qc1];lia),bZ];rfl
 let G (k:Str):η Dt:=ts.map λt=>.t [.str k,.str t.1.1,.int t.1.2,.int t.2]
 have Z:B.length=bs.length:=by simp[B]
 have hG:∀k,(G k).length=ts.length:=λk=>by simp[G]
 have Y:eIl .v (eAt 1 6 (eV 0)) [ς (.ref 13),ς (.g (.t (bs.map .str))),ς (.g (.e [U])),ς (.g (.e B)),ψ] (hz sh S (ς l) g)=ς (.g (.e (dR l.lg)),hz sh S (ς l) g):=by have h13:(hz sh S (ς l) g)[13]?=ς (lO l):=rfl;have h15:(hz sh S (ς l) g)[15]?=ς (.dT (dp l.lg)):=rfl;rwa[eIl,eAt,eV];simp[lent,h13,h15,lO,nC,cC,hz',fin,T.d]
 have hw:(dG i l.dn l.he l.sy (bs.map λs=>(s,bv l.bx l.du s)) ts).map Sm.d=[U]++B++G "log"++[Sm.d .trn]++G "put":=by rw[O,<- hb0];simp[dG,B,G,nO,bI,Sm.d,qb4]
 rw[hw];have a1:=yG (a:=[U]) (b:=B) (by rw[qc1];simp[Z];lia);rw[O]at W Y a1 ⊢;exact xR (.v 0 W (.v 0 Y (.t 0 a1 (.v 0 (n1 "log") (.t 0 (yG (a:=[.t [.str "begin",.int l.pl,.int l.dn,.int l.he,.int l.sy]]++B) (b:=G "log") (by rw[qc1];simp[Z,hG];lia)) (.t 0 (yG (a:=[.t [.str "begin",.int l.pl,.int l.dn,.int l.he,.int l.sy]]++B++G "log") (b:=[Sm.d .trn]) (by rw[qc1];simp[Z,hG];lia)) (.v 0 (n1 "put") (.t 0 (yG (a:=[.t [.str "begin",.int l.pl,.int l.dn,.int l.he,.int l.sy]]++B++G "log"++[Sm.d .trn]) (b:=G "put") (by rw[qc1];simp[Z,hG];lia)) .nil))))))))
end
structure TlOk(tl:CH)(sh:Sh):Prop where
 len:tl.length=sh.length
 all:∀{o:CO},o∈tl->∃L,o=dl L
theorem de{sh:Sh}{g:Vf}:TlOk (ao sh g) sh:=⟨dz,λ{o} h=>by have⟨q,_,rfl⟩:=qb9.mp h;exact⟨_,rfl⟩⟩
section
variable{S:HS}{lo:ζ LS}{tl:CH}{sh:Sh}{σ:Nat->Nat}{l:LS}
theorem nU:13<=off lo:=by cases lo<;>simp[off]
theorem iz:(ar lo tl).length+13=tl.length+off lo:=by cases lo<;>simp[ar,off]
theorem Dr:(hc sh S lo tl).length=tl.length+off lo:=by rw[<- iz];rfl
theorem dg{L:η Dt}:rnO σ (dl L)=dl L:=by simp[rnO,rn,qb4]
theorem dh:∀{sh:Sh}{o n:Nat},o+sh.length<=n->(ae o sh).all (λp=>clV n p.2)=θ
 |[],_,_,_=>rfl
 |p::r,o,n,h=>by rwa[qb8]at h;rwa[ae,qd4,clV,qa1,decide_eq_true_eq];exact⟨Θ,dh Θ⟩
theorem pL{L:η Dt}{n:Nat}:(L.map CV.g).all (clV n)=θ:=by simp[clV]
theorem pM{L:η Dt}{n:Nat}:clO n (dl L)=θ:=pL
theorem z8{κ:Type}{b:η (κ×Dt)}{n:Nat}:(dp b).all (λp=>clV n p.2)=θ:=by simp[dp,clV]
theorem nV{d:Dt}{n:Nat}:clV n (.g d)=θ:=rfl
theorem iA{i n:Nat}:clV n (.ref i)=decide (i<n):=rfl
theorem Fq(h:TlOk tl sh):Cl (hc sh S lo tl):=by
 unfold Cl;rw[Dr];have U:=dh (sh:=sh) (o:=off lo) (n:=tl.length+off lo) (by rw[h.len];lia);have O:tl.all (clO (tl.length+off lo))=θ:=qc0.mpr λo W=>by have⟨L,rfl⟩:=h.all W;exact pM
 have lt:∀k,k<13->decide (k<tl.length+off lo)=θ:=λk Z=>decide_eq_true (by have:=nU (lo:=lo);lia)
 cases lo with
 |none=>rwa[hc,hb,hbN,hO,ar,lvO,qd4,qx7,clO,nV,iA,pL,z8,U,O,lt,qn8,zf8]
 |some l=>
  have Y:∀k,k<16->decide (k<tl.length+off (ς l))=θ:=λk Z=>decide_eq_true (by show k<tl.length+16;lia)
  rwa[hc,hb,hbN,hO,ar,lvO,lO,qd4,qx7,clO,nV,iA,pL,z8,U,O,Y,qn8,zf8]
theorem bJ:∀{sh:Sh}{o o':Nat},(∀k,k<sh.length->σ (k+o)=k+o')->rnP σ (ae o sh)=ae o' sh
 |[],_,_,_=>rfl
 |p::r,o,o',h=>by
  have U:=h 0 Ξ;rwa[zf9]at U;have O:=bJ (sh:=r) (o:=o+1) (o':=o'+1) λk W=>by have:=h (k+1) ‹W›;rw[show k+(o+1)=k+1+o by lia,this];lia
  rwa[rnP,ae,qa3,rn,U]at O ⊢;rw[O]
theorem lc(h:TlOk tl sh)(h4:σ 14=14)(W:σ 15=15){o:CO}(O:o∈ar lo tl):rnO σ o=o:=by
 have U:∀o∈tl,rnO σ o=o:=λo O=>by have⟨L,rfl⟩:=h.all O;exact dg
 cases lo with
 |none=>exact U o O
 |some l=>
  rwa[ar,qc3]at O;rcases O with rfl|rfl|rfl|O
  .simp[lO,rnO,rn,h4,W]
  .rwa[rnO,fY]
  .rwa[rnO,fY]
  .exact U o O
theorem jK{lv:CV}{T raw:CH}(inj:∀i j,i<T.length+13->j<T.length+13->σ i=σ j->i=j)
 (h0:raw[σ 0]?=ς (rnO σ (hO S' lv (.ref 3)))) (h1:raw[σ 1]?=ς (rnO σ (.ins 2 [.ref 4,.ref 5,.ref 6,.ref 7,I (cI S'.c),.g (rD S'.res)]))) (h2:raw[σ 2]?=ς (rnO σ (.ins 0 [.ref 8,.g (.bl S'.unl)]))) (h3:raw[σ 3]?=ς (dl (S'.plan.map Sm.d))) (h4:raw[σ 4]?=ς (rnO σ (.dK rf))) (h5:raw[σ 5]?=ς (.e [.g (.t (S'.pg ξ).h),.g (.t (S'.pg θ).h)])) (h6:raw[σ 6]?=ς (.e [.ref (σ 9),.ref (σ 10)])) (h7:raw[σ 7]?=ς (.e [.ref (σ 11),.ref (σ 12)])) (h8:raw[σ 8]?=ς (.dK (dp S'.fst))) (Y:raw[σ 9]?=ς (dl (S'.pg ξ).b)) (O:raw[σ 10]?=ς (dl (S'.pg θ).b)) (W:raw[σ 11]?=ς (dl (S'.pg ξ).t)) (U:raw[σ 12]?=ς (dl (S'.pg θ).t))
 (ht:∀i o,T[i]?=ς o->raw[σ (i+13)]?=ς (rnO σ o)):At σ (hb S' lv rf T) raw:=by
 refine⟨λi j hi Z=>inj i j hi Z,λ{i o} hi=>?_⟩;have e:∀L,rnO σ (dl L)=dl L:=λL=>dg
 rcases i with _|_|_|_|_|_|_|_|_|_|_|_|_|i
 .cases hi;exact h0
 .cases hi;exact h1
 .cases hi;exact h2
 .cases hi;rw[e];exact h3
 .cases hi;exact h4
 .cases hi;exact h5
 .cases hi;exact h6
 .cases hi;exact h7
 .cases hi;rwa[rnO,fY];exact h8
 .cases hi;rw[e];exact Y
 .cases hi;rw[e];exact O
 .cases hi;rw[e];exact W
 .cases hi;rw[e];exact U
 .exact ht i o hi
noncomputable def sg2(a b n:Nat):Nat->Nat:=λi=>if i=a then n else if i=b then n+1 else i
theorem vM{b n:Nat}(O:a<13)(hb:b<13):rn (sg2 a b n) (lvO lo)=lvO lo:=by
 cases lo
 .rfl
 .rwa[lvO,rn,sg2];rw[if_neg Θ,if_neg Θ]
theorem ef{b n k:Nat}(O:a<13)(hb:b<13)(U:13<=k):sg2 a b n k=k:=by unfold sg2;rw[if_neg Θ,if_neg Θ]
theorem pN{b n:Nat}(O:a≠b):∀i j,i<n->j<n->sg2 a b n i=sg2 a b n j->i=j:=λi j hi U e=>by unfold sg2 at e;split at e<;>split at e<;>(try split at e)<;>(try split at e)<;>lia
theorem vN{b n:Nat}(O:a<13)(hb:b<13):rnP (sg2 a b n) (ae (off lo) sh)=ae (off lo) sh:=bJ λk U=>ef O hb (by have:=nU (lo:=lo);lia)
theorem nW{a:Nat}{b c d:Int}(O:S.c=θ)(h:TlOk tl sh):At (sg2 9 11 ((ar lo tl).length+13)) (hc sh (ap S (.beg a b c d)) lo tl) (hbN (ma S a b c d) (lvO lo) (ae (off lo) sh) ((ar lo tl).length+13) 10 ((ar lo tl).length+13+1) 12 (ar lo tl++[.e []]++[.e []])):=by
 have⟨x,pl,pg,k,res,fs,un,du⟩:=S;cases O;have U:=vM (lo:=lo) (a:=9) (b:=11) (n:=(ar lo tl).length+13) Θ Θ;have hr:=vN (sh:=sh) (lo:=lo) (a:=9) (b:=11) (n:=(ar lo tl).length+13) Θ Θ;have Z:=λo ho=>lc (σ:=sg2 9 11 ((ar lo tl).length+13)) (lo:=lo) (o:=o) h (ef Θ Θ Θ) (ef Θ Θ Θ) ho
 have W:=λk Y=>ef (a:=9) (b:=11) (n:=(ar lo tl).length+13) (k:=k) Θ Θ Y
 unfold hc;generalize ar lo tl=T at*
 refine jK (pN (a:=9) (b:=11) Ω) ?_ rfl rfl rfl ?_ rfl rfl ?_ rfl ?_ rfl ?_ rfl λi o hi=>?_
 .show ς (hO _ (lvO lo) (.ref 3))=_;rwa[hO,rnO,qa3,qf8,bG,fV,U];rfl
 .show ς (CO.dK (ae (off lo) sh))=_;rwa[rnO,hr]
 .simp[sg2];show ς _=_;simp
 .show(T++[CO.e []]++[.e []])[T.length]?=_;simp[ap,up]
 .show(T++[CO.e []]++[.e []])[T.length+1]?=_;simp[ap,up]
 .rw[W _ Θ,Z o (qa4 hi)];show(T++[CO.e []]++[.e []])[i]?=_;rw[qd8,gL (ai hi)];exact hi
theorem nX{a:Nat}{b c d:Int}(O:S.c=ξ)(h:TlOk tl sh):At (sg2 10 12 ((ar lo tl).length+13)) (hc sh (ap S (.beg a b c d)) lo tl) (hbN (ma S a b c d) (lvO lo) (ae (off lo) sh) 9 ((ar lo tl).length+13) 11 ((ar lo tl).length+13+1) (ar lo tl++[.e []]++[.e []])):=by
 have⟨x,pl,pg,k,res,fs,un,du⟩:=S;cases O;have U:=vM (lo:=lo) (a:=10) (b:=12) (n:=(ar lo tl).length+13) Θ Θ;have hr:=vN (sh:=sh) (lo:=lo) (a:=10) (b:=12) (n:=(ar lo tl).length+13) Θ Θ;have Z:=λo ho=>lc (σ:=sg2 10 12 ((ar lo tl).length+13)) (lo:=lo) (o:=o) h (ef Θ Θ Θ) (ef Θ Θ Θ) ho
 have W:=λk Y=>ef (a:=10) (b:=12) (n:=(ar lo tl).length+13) (k:=k) Θ Θ Y
 unfold hc;generalize ar lo tl=T at*
 refine jK (pN (a:=10) (b:=12) Ω) ?_ rfl rfl rfl ?_ rfl rfl ?_ rfl rfl ?_ rfl ?_ λi o hi=>?_
 .show ς (hO _ (lvO lo) (.ref 3))=_;rwa[hO,rnO,qa3,qf8,bG,fV,U];rfl
 .show ς (CO.dK (ae (off lo) sh))=_;rwa[rnO,hr]
 .simp[sg2];show ς _=_;simp
 .show(T++[CO.e []]++[.e []])[T.length]?=_;simp[ap,up]
 .show(T++[CO.e []]++[.e []])[T.length+1]?=_;simp[ap,up]
 .rw[W _ Θ,Z o (qa4 hi)];show(T++[CO.e []]++[.e []])[i]?=_;rw[qd8,gL (ai hi)];exact hi
def sgB(b:Bool)(n:Nat):Nat->Nat:=bif b then sg2 9 11 n else sg2 10 12 n
theorem vO{b c d:Int}(h:TlOk tl sh):At (sgB S.c ((ar lo tl).length+13)) (hc sh (ap S (.beg a b c d)) lo tl) (hbB (ma S a b c d) (lvO lo) (ae (off lo) sh) ((ar lo tl).length+13) (ar lo tl++[.e []]++[.e []])):=by
 unfold sgB hbB;have e:(ma S a b c d).c=S.c:=rfl;rw[e];cases q:S.c with
 |true=>exact nW q h
 |false=>exact nX q h
noncomputable def sgW(n:Nat):Nat->Nat:=λi=>if i<13 then i else if i<16 then n+(i-13)else i-3
theorem yQ(h:TlOk tl sh):At (sgW (tl.length+13)) (hc sh S (ς l) tl) (hb S (.ref (tl.length+13)) (ae 13 sh) (tl++[.ins 1 [I l.pl,I l.dn,I l.he,I l.sy,.ref (tl.length+13+1),I l.du,.ref (tl.length+13+2)],.dK (dp l.bx),.dT (dp l.lg)])):=by
 have W:rnP (sgW (tl.length+13)) (ae 16 sh)=ae 13 sh:=bJ λk Y=>by unfold sgW;rw[if_neg Θ,if_neg Θ];lia
 refine jK (λi j hi U e=>?_) ?_ rfl rfl rfl ?_ rfl rfl rfl rfl rfl rfl rfl rfl λi o hi=>?_
 .rwa[ar,qb8]at hi U;unfold sgW at e;split at e<;>split at e<;>(try split at e)<;>(try split at e)<;>lia
 .rfl
 .show ς (CO.dK (ae 13 sh))=_;rwa[rnO];rw[show off (ς l)=16 from rfl,W]
 .have O:∀k,(hb S (.ref (tl.length+13)) (ae 13 sh) (tl++[.ins 1 [I l.pl,I l.dn,I l.he,I l.sy,.ref (tl.length+13+1),I l.du,.ref (tl.length+13+2)],.dK (dp l.bx),.dT (dp l.lg)]))[k+13]?=(tl++[CO.ins 1 [I l.pl,I l.dn,I l.he,I l.sy,.ref (tl.length+13+1),I l.du,.ref (tl.length+13+2)],.dK (dp l.bx),.dT (dp l.lg)])[k]?:=λ_=>rfl
  rcases i with _|_|_|i
  .cases hi;show(hb S _ _ _)[tl.length+13]?=_;rw[O,gR Θ,Nat.sub_self];rfl
  .cases hi;show(hb S _ _ _)[tl.length+13+1]?=_;rw[show tl.length+13+1=tl.length+1+13 by lia,O,gR Θ,qg7];rwa[rnO,fY];rfl
  .cases hi;show(hb S _ _ _)[tl.length+13+2]?=_;rw[show tl.length+13+2=tl.length+2+13 by lia,O,gR Θ,qg7];rwa[rnO,fY];rfl
  .have hi:tl[i]?=ς o:=hi;have:sgW (tl.length+13) (i+1+1+1+13)=i+13:=by unfold sgW;rw[if_neg Θ,if_neg Θ];lia
   rw[this,O,gL (ai hi),hi];have⟨L,rfl⟩:=h.all (qa4 hi);rw[dg]
noncomputable def sg1(n:Nat):Nat->Nat:=λi=>if i=3 then n else i
theorem yR(h:TlOk tl sh):At (sg1 (tl.length+16)) (hc sh {S with plan:=P} (ς l) tl) ((hl S l (ae 16 sh) (tl++[dl (P.map Sm.d)])).set 0 (hO S (.ref 13) (.ref (tl.length+16)))):=by
 have W:rnP (sg1 (tl.length+16)) (ae 16 sh)=ae 16 sh:=bJ λk Y=>by unfold sg1;rw[if_neg Θ]
 refine jK (λi j hi U e=>?_) rfl rfl rfl ?_ ?_ rfl rfl rfl rfl rfl rfl rfl rfl λi o hi=>?_
 .rwa[ar,qb8]at hi U;unfold sg1 at e;split at e<;>split at e<;>lia
 .show(tl++[dl (P.map Sm.d)])[tl.length]?=_;simp
 .show ς (CO.dK (ae 16 sh))=_;rwa[rnO];rw[show off (ς l)=16 from rfl,W]
 .have O:=lc (σ:=sg1 (tl.length+16)) (lo:=ς l) (o:=o) h rfl rfl (qa4 hi);rw[O];show((hl S l (ae 16 sh) (tl++[dl (P.map Sm.d)])).set 0 (hO S (.ref 13) (.ref (tl.length+16))))[i+13]?=ς o;show(lO l::CO.dK (dp l.bx)::CO.dT (dp l.lg)::(tl++[dl (P.map Sm.d)]))[i]?=ς o;rcases i with _|_|_|i
  .exact hi
  .exact hi
  .exact hi
  .have hi:tl[i]?=ς o:=hi;show(tl++[dl (P.map Sm.d)])[i]?=ς o;rw[gL (ai hi)];exact hi
noncomputable def sgF(k n:Nat):Nat->Nat:=λi=>if i=3 then n else if i<13 then i else i-13+k
theorem yS{d:Int}(h:TlOk tl sh):At (sgF (off lo) ((ar lo tl).length+13)) (hc sh {S with plan:=P,dust:=d} ψ tl) ((hb S (lvO lo) (ae (off lo) sh) (ar lo tl++[dl (P.map Sm.d)])).set 0 (hO {S with dust:=d} (.g .non) (.ref ((ar lo tl).length+13)))):=by
 have Y:=iz (lo:=lo) (tl:=tl);have Z:=nU (lo:=lo);have U:rnP (sgF (off lo) ((ar lo tl).length+13)) (ae 13 sh)=ae (off lo) sh:=bJ λk O=>by unfold sgF;rw[if_neg Θ,if_neg Θ];lia
 have O:∀i,i<tl.length->(ar lo tl)[i+off lo-13]?=tl[i]?:=λi hi=>by
  cases lo
  .show tl[i+13-13]?=_;rw[qs7]
  .show(_::_::_::tl)[i+16-13]?=_;rw[show i+16-13=i+3 by lia];rfl
 generalize ar lo tl=T at*
 refine jK (λi j hi W e=>?_) rfl rfl rfl ?_ ?_ rfl rfl rfl rfl rfl rfl rfl rfl λi o hi=>?_
 .rwa[ar]at hi W;unfold sgF at e;split at e<;>split at e<;>(try split at e)<;>(try split at e)<;>lia
 .show(T++[dl (P.map Sm.d)])[T.length]?=_;simp
 .show ς (CO.dK (ae (off lo) sh))=_;rwa[rnO];rw[show off ψ=13 from rfl,U]
 .have hi:tl[i]?=ς o:=hi;have hl:=ai hi;have e:sgF (off lo) (T.length+13) (i+13)=i+off lo-13+13:=by unfold sgF;rw[if_neg Θ,if_neg Θ];lia
  rw[e];show(T++[dl (P.map Sm.d)])[i+off lo-13]?=_;rw[gL Θ,O i hl,hi];have⟨L,rfl⟩:=h.all (qa4 hi);rw[dg]
end
structure PgOk(R:Nat)(sh:Sh)(p:Pg):Prop where
 r:p.r<R
 he:0<=p.he
 nd:(p.bs.map (·.1)).Nodup
 vi:∀b∈p.bs,Vn b.2
 ts:∀t∈p.ts,Vp sh t.1.1 t.1.2/\Vn t.2
structure Ok(x:Fx)(R:Nat)(sh:Sh)(N:Nat)(S:HS)(g:Vf):Prop where
 hx:S.x=x
 ln:∀b,(S.pg b).bs.length<=N/\(S.pg b).ts.length<=N
 fp:PgOk R sh (S.pg S.c)
 ft:FOk N S.fst
 du:Vn S.dust
 gn:∀n p,Vn (g n p)
 rs:S.res=ψ
def fpg(f:Bool->Pg)(k:Bool):η Sm->Pg
 |[]=>f k
 |.beg a b c d::P=>fpg (up f (!k) ⟨a,b,c,d,[],[]⟩) k P
 |.box n v::P=>fpg (up f (!k) {f (!k)with bs:=(f (!k)).bs++[(n,v)]}) k P
 |.log n p v::P=>fpg (up f (!k) {f (!k)with ts:=(f (!k)).ts++[((n,p),v)]}) k P
 |.trn::P=>fpg f (!k) P
 |_::P=>fpg f k P
inductive PlW(sh:Sh):Nat->List Sm->Prop
 |beg {a b c d P:_}:PlW sh 1 P->PlW sh 0 (.beg a b c d::P)
 |box {n v P:_}:PlW sh 1 P->PlW sh 1 (.box n v::P)
 |log {n p v P:_}:PlW sh 1 P->PlW sh 1 (.log n p v::P)
 |trn {P:_}:PlW sh 2 P->PlW sh 1 (.trn::P)
 |put {n p v P:_}:Vp sh n p->Vn v->PlW sh 2 P->PlW sh 2 (.put n p v::P)
 |nil:PlW sh 2 []
structure Wr(x:Fx)(R:Nat)(sh:Sh)(N:Nat)(S:HS)(l:LS)(g:Vf)(q:Pg):Prop where
 ok:Ok x R sh N S g
 pn:S.plan.length<=2*N+20
 lk:LOk sh N l
 li:∃i:Nat,l.pl=i/\i<R
 ph:∃ph,PlW sh ph S.plan
 fe:fpg S.pg S.c S.plan=q
 fq:PgOk R sh q
structure Sd(x:Fx)(R:Nat)(sh:Sh)(N:Nat)(S:HS)(l:LS)(g:Vf):Prop where
 ok:Ok x R sh N S g
 pl:S.plan=[]
 lk:LOk sh N l
 li:∃i:Nat,l.pl=i/\i<R
def Nx(x:Fx)(R:Nat)(sh:Sh)(N:Nat)(d h y:Int)(q:Pg)(S:HS)(lo:ζ LS)(g:Vf):Prop:=∃l,lo=ς l/\(l.dn=d/\l.he=h/\l.sy=y)/\((Sd x R sh N S l g/\S.pg S.c=q)\/(S.plan≠[]/\Wr x R sh N S l g q))
def To(sh:Sh)(F:Fd)(ag:η CV)(cs:CH)(Q:HS->ζ LS->Vf->Prop):Prop:=∃S lo g cs' σ,F ag cs=ς (.g .non,cs')/\cs.length<=cs'.length/\At σ (hz sh S lo g) cs'/\σ 0=0/\Q S lo g
structure XR(x:Fx)(R:List Rw)(sh:Sh)(nm:List Str):Prop where
 X:XOk x sh
 rows:x.rows=R.map Rw.d
 onw:∀(i:Nat) r,R[i]?=ς r->x.onw[i]?=ς (r0 i r)
 rok:∀r∈R,Dm x sh r
 lead:∀(i:Nat) r p,R[i]?=ς r->ml i r p->∃j:Nat,p=j/\j<R.length
 kv:∀k d,am x.kk x.kv k=ς d->∃bs:List Str,d=.t (bs.map .str)/\bs.Nodup/\bs.length<=6/\∀s∈bs,s∈nm
variable{ag:η CV}
section
variable{x:Fx}{R:Nat}{sh:Sh}{N:Nat}{S S':HS}{lo lo':ζ LS}{l:LS}{g g':Vf}{P:η Sm}{q:Pg}{Q:HS->ζ LS->Vf->Prop}
theorem Ok.up(o:Ok x R sh N S g):Ok x R sh (N+1) S g:=⟨o.hx,λb=>⟨qd9 (o.ln b).1,qd9 (o.ln b).2⟩,o.fp,o.ft.up,o.du,o.gn,o.rs⟩
theorem Ok.pl(o:Ok x R sh N S g):Ok x R sh N {S with plan:=P} g:=⟨o.hx,o.ln,o.fp,o.ft,o.du,o.gn,o.rs⟩
def Can(sh:Sh)(S:HS):Sm->Prop
 |.put n p _=>Vp sh n p
 |.box _ _=>(S.pg (!S.c)).bs.length<qa5
 |.log _ _ _=>(S.pg (!S.c)).ts.length<qa5
 |.trn=>True
 |_=>False
def apg(g:Vf):Sm->Vf
 |.put n p v=>fu g n p v
 |_=>g
theorem jL(U:(sh.map (·.1)).Nodup){s:Sm}(h:Can sh S s):F36 [.ref 1,.g s.d] (hz sh S lo g)=ς (.g .non,hz sh (ap S s) lo (apg g s)):=by
 cases s with
 |put n p v=>have⟨k,m,O,hp⟩:=h;exact Db (pI U O hp)
 |box n v=>exact C7 h
 |log n p v=>exact C8 h
 |trn=>exact C9
 |wake=>cases h
 |beg a b c d=>cases h
theorem vP:(hz sh S lo g).length=sh.length+off lo:=by have:=iz (lo:=lo) (tl:=ao sh g);rw[dz]at this;exact this
theorem To.here{F:Fd}(h:F ag (hz sh S lo g)=ς (.g .non,hz sh S' lo' g'))(hl:off lo<=off lo')(o:Q S' lo' g'):To sh F ag (hz sh S lo g) Q:=⟨S',lo',g',_,_,h,by rw[vP,vP];lia,.same,rfl,o⟩
theorem vQ{f:Bool->Pg}{b:Bool}{p:Pg}:up f (!b) p b=f b:=if_neg (by cases b<;>decide)
omit x in
theorem mo{f:Bool->Pg}{k:Bool}(h:PlW sh 2 P):fpg f k P=f k:=by
 induction P with
 |nil=>rfl
 |cons s P O=>cases h;rename_i h;exact O h
theorem vR{f:Bool->Pg}{b:Bool}{p:Pg}(h:∀b,(f b).bs.length<=N/\(f b).ts.length<=N)(h1:p.bs.length<=N+1)(h2:p.ts.length<=N+1)(b':Bool):(up f b p b').bs.length<=N+1/\(up f b p b').ts.length<=N+1:=by
 unfold up;split
 .exact⟨h1,h2⟩
 .exact⟨qd9 (h b').1,qd9 (h b').2⟩
omit x in
theorem yT(hn:(sh.map (·.1)).Nodup)(hN:N<400000)(o:Wr x R sh N S l g q)(hP:S.plan≠[]):To sh F37 [.ref 0] (hz sh S (ς l) g) (Nx x R sh (N+1) l.dn l.he l.sy q):=by
 have hl:S.plan.length<=1000000:=by have:=o.pn;lia
 obtain⟨s,P,hp⟩:∃s P,S.plan=s::P:=by cases e:S.plan with|nil=>exact absurd e hP|cons s P=>exact⟨s,P,rfl⟩
 have⟨ph,h1⟩:=o.ph;have fe:=o.fe;have pn:=o.pn;rw[hp]at h1 fe pn;have k:=o.ok;have Y:s≠.wake:=λe=>by rw[e]at h1;cases h1
 have L:=o.lk.up;rwa[qb8]at pn;by_cases hb:∃a b c d,s=.beg a b c d
 .have⟨a,b,c,d,rfl⟩:=hb;cases h1;rename_i h1;obtain⟨s',P',rfl⟩:∃s' P',P=s'::P':=by cases P with|nil=>cases h1|cons s' P'=>exact⟨s',P',rfl⟩
  have d1:=Dc (S:={S with plan:=s'::P'}) (lv:=.ref 13) (rf:=ae 16 sh) (tl:=ar (ς l) (ao sh g)) (a:=a) (b:=b) (c:=c) (d:=d);have U:=dZ (S:=S) (S':=ma {S with plan:=s'::P'} a b c d) (lv:=.ref 13) (rf:=ae 16 sh) (tl:=ar (ς l) (ao sh g)) hp Y hl d1 (by unfold hbB;cases S.c<;>rfl) (by unfold hbB;cases S.c<;>rfl);refine⟨ap {S with plan:=s'::P'} (.beg a b c d),ς l,g,_,_,U,?_,vO (lo:=ς l) (S:={S with plan:=s'::P'}) de,by unfold sgB;cases S.c<;>rfl,l,rfl,⟨rfl,rfl,rfl⟩,.inr ⟨by simp[ap],⟨⟨k.hx,vR k.ln Ξ Ξ,?_,k.ft.up,k.du,k.gn,k.rs⟩,by show(s'::P').length<=_;lia,L,o.li,⟨1,h1⟩,fe,o.fq⟩⟩⟩
  .unfold hbB;cases (ma {S with plan:=s'::P'} a b c d).c<;>simp[hc,hbN,hb,ar,lvO]
  .show PgOk R sh (up S.pg (!S.c) _ S.c);rw[vQ];exact k.fp
 .have Z:Can sh {S with plan:=P} s/\Ok x R sh (N+1) (ap {S with plan:=P} s) (apg g s)/\∃ph,PlW sh ph P:=by
   have lt:∀{k:Nat},k<=N->k<qa5:=λ{k} h=>by rw[qc1];lia
   cases s with
   |beg a b c d=>exact absurd ⟨a,b,c,d,rfl⟩ hb
   |wake=>exact absurd rfl Y
   |put n p v=>cases h1;rename_i q1 q2 h1;exact⟨q1,⟨k.hx,k.up.ln,k.fp,k.ft.up,k.du,Dp k.gn q2,k.rs⟩,2,h1⟩
   |box n v=>cases h1;rename_i h1;exact⟨lt (k.ln _).1,⟨k.hx,vR k.ln (by have:=(k.ln (!S.c)).1;simp;lia) (qd9 (k.ln _).2),by show PgOk R sh (up S.pg (!S.c) _ S.c);rw[vQ];exact k.fp,k.ft.up,k.du,k.gn,k.rs⟩,1,h1⟩
   |log n p v=>cases h1;rename_i h1;exact⟨lt (k.ln _).2,⟨k.hx,vR k.ln (qd9 (k.ln _).1) (by have:=(k.ln (!S.c)).2;simp;lia),by show PgOk R sh (up S.pg (!S.c) _ S.c);rw[vQ];exact k.fp,k.ft.up,k.du,k.gn,k.rs⟩,1,h1⟩
   |trn=>cases h1;rename_i h1;have e:fpg S.pg (!S.c) P=q:=fe;rw[mo h1]at e;exact⟨trivial,⟨k.hx,k.up.ln,by show PgOk R sh (S.pg (!S.c));rw[e];exact o.fq,k.ft.up,k.du,k.gn,k.rs⟩,2,h1⟩
  have⟨c1,c2,c3⟩:=Z;have rn:=jL (lo:=ς l) (g:=g) hn c1;have W:fpg (ap {S with plan:=P} s).pg (ap {S with plan:=P} s).c P=q:=by rw[<- fe];cases s<;>rfl
  have O:(ap {S with plan:=P} s).plan=P:=by cases s<;>rfl
  cases P with
  |cons s' P'=>have U:=dZ (S:=S) (S':=ap {S with plan:=s'::P'} s) (lv:=.ref 13) (rf:=ae 16 sh) (tl:=ar (ς l) (ao sh g)) hp Y hl rn (by cases s<;>rfl) (by cases s<;>rfl);exact .here U (qq9 _) ⟨l,rfl,⟨rfl,rfl,rfl⟩,.inr ⟨by rw[O];simp,⟨c2,by rw[O];lia,L,o.li,by rw[O];exact c3,by rw[O];exact W,o.fq⟩⟩⟩
  |nil=>have U:=nQ (S:=S) (rf:=ae 16 sh) (tl:=ar (ς l) (ao sh g)) (S':=ap {S with plan:=[]} s) (bx:=.dK (dp l.bx)) (lg:=dp l.lg) (ch':=ao sh (apg g s)) hp Y rn O;exact .here (lo':=ς {l with lg:=[]}) U (qq9 _) ⟨_,rfl,⟨rfl,rfl,rfl⟩,.inl ⟨⟨c2,O,⟨L.he,L.du,L.bx,L.bn,Ξ,Ξ⟩,o.li⟩,W⟩⟩
theorem yU(W:(sh.map (·.1)).Nodup)(Z:N<400000)(o:Ok x R sh N S g){t:Tn}(hp:S.plan=bI (t::ts)++[.wake])(hl:ts.length<=N)(Y:Vp sh t.1.1 t.1.2):F37 [.ref 0] (hz sh S ψ g)=ς (.g .non,hz sh {S with plan:=bI ts++[.wake]} ψ (fu g t.1.1 t.1.2 t.2)):=by
 have O:S.plan=.put t.1.1 t.1.2 t.2::(bI ts++[.wake]):=hp;have rn:=jL (S:={S with plan:=bI ts++[.wake]}) (lo:=ψ) (g:=g) (s:=.put t.1.1 t.1.2 t.2) W Y;have U:S.plan.length<=1000000:=by rw[O];simp[bI];lia
 obtain⟨s',P',e⟩:∃s' P',bI ts++[Sm.wake]=s'::P':=by cases ts<;>exact⟨_,_,rfl⟩
 rw[e]at O rn ⊢;exact dZ (S:=S) (S':={S with plan:=s'::P'}) (lv:=.g .non) (rf:=ae 13 sh) (tl:=ao sh g) O (λz=>by cases z) U rn rfl rfl
theorem pO(o:Ok x R sh N S g)(hp:S.plan=[.wake]):To sh F37 [.ref 0] (hz sh S ψ g) (λS' lo' g'=>S'={S with plan:=[]}/\lo'=ς ⟨(S.pg S.c).r,(S.pg S.c).dn,(S.pg S.c).he,(S.pg S.c).sy,S.dust,bxK (S.pg S.c).bs,[]⟩/\g'=g):=by have O:=nR (S:=S) (lv:=.g .non) (rf:=ae 13 sh) (tl:=ao sh g) hp rfl o.fp.nd;refine⟨_,_,_,_,_,O,?_,yQ (l:=⟨(S.pg S.c).r,(S.pg S.c).dn,(S.pg S.c).he,(S.pg S.c).sy,S.dust,bxK (S.pg S.c).bs,[]⟩) de,rfl,rfl,rfl,rfl⟩;simp[hc,hbN,ar,lvO]
end
variable{Q:η Sm}
section
variable{sh:Sh}{f:Bool->Pg}{k b:Bool}{p p':Pg}
theorem z9:up (up f b p) b p'=up f b p':=by funext x;unfold up;split<;>rfl
theorem vS:up f b p b=p:=if_pos rfl
theorem jM:∀{ks:η Bx}{p:Pg},fpg (up f (!k) p) k ((ks.map λb=>.box b.1 b.2)++Q)=fpg (up f (!k) {p with bs:=p.bs++ks}) k Q
 |[],p=>by rw[qe5];rfl
 |b::ks,p=>by show fpg (up (up f (!k) p) (!k) {up f (!k) p (!k)with bs:=(up f (!k) p (!k)).bs++[(b.1,b.2)]}) k ((ks.map λb=>.box b.1 b.2)++Q)=_;rw[z9,vS,jM (ks:=ks)];simp
theorem mq:∀{ts:η Tn}{p:Pg},fpg (up f (!k) p) k (nO ts++Q)=fpg (up f (!k) {p with ts:=p.ts++ts}) k Q
 |[],p=>by rw[qe5];rfl
 |t::ts,p=>by show fpg (up (up f (!k) p) (!k) {up f (!k) p (!k)with ts:=(up f (!k) p (!k)).ts++[((t.1.1,t.1.2),t.2)]}) k (nO ts++Q)=_;rw[z9,vS,mq (ts:=ts)];simp
theorem pP:∀{ts:η Tn},(∀t∈ts,Vp sh t.1.1 t.1.2/\Vn t.2)->PlW sh 2 (bI ts)
 |[],_=>.nil
 |t::ts,h=>.put (h t (.head _)).1 (h t (.head _)).2 (pP λu O=>h u (.tail _ O))
theorem pQ(O:PlW sh 1 Q):∀{ts:η Tn},PlW sh 1 (nO ts++Q)
 |[]=>O
 |_::ts=>.log (pQ O (ts:=ts))
theorem mr(O:PlW sh 1 Q):∀{ks:η Bx},PlW sh 1 ((ks.map λk=>.box k.1 k.2)++Q)
 |[]=>O
 |_::ks=>.box (mr O (ks:=ks))
theorem vT{b c d:Int}{ks:η Bx}(h:∀t∈ts,Vp sh t.1.1 t.1.2/\Vn t.2):PlW sh 0 (dG a b c d ks ts)/\fpg f k (dG a b c d ks ts)=⟨a,b,c,d,ks,ts⟩:=by
 have e:dG a b c d ks ts=Sm.beg a b c d::((ks.map λk=>.box k.1 k.2)++(nO ts++(.trn::bI ts))):=by simp[dG]
 rw[e];have h2:PlW sh 2 (bI ts):=pP h;refine⟨.beg (mr (pQ (.trn h2))),?_⟩;show fpg (up f (!k) ⟨a,b,c,d,[],[]⟩) k _=_;rw[jM,mq];show fpg _ (!k) (bI ts)=_;rw[mo h2,vS];rfl
end
def Wdn(nm:η Str)(r:Rw)(l:LS)(q:Pg):Prop:=q.dn=l.dn+1/\q.he=l.he+r.he/\q.sy=l.sy+r.sy/\∀b∈q.bs,b.1∈nm/\(b.1≠r.x->b.2=bv l.bx l.du b.1)
def Rowd(x:Fx)(R:Nat)(sh:Sh)(N:Nat)(nm:η Str)(r:Rw)(l:LS)(S:HS)(lo:ζ LS)(g:Vf):Prop:=∃O,lo=ς O/\(O.dn=l.dn+1/\O.he=l.he+r.he/\O.sy=l.sy+r.sy)/\(Sd x R sh N S O g\/∃q,S.plan≠[]/\Wr x R sh N S O g q/\Wdn nm r l q)
section
variable{x:Fx}{R:η Rw}{sh:Sh}{nm:η Str}{N:Nat}{S S':HS}{lo:ζ LS}{l:LS}{g g':Vf}{P:η Sm}{q:Pg}{Q:HS->ζ LS->Vf->Prop}
theorem Ds (X:XR x R sh nm) (hN:N<400000) (o:Sd x R.length sh N S l g) {i:Nat} (hi:l.pl=i) {r:Rw} (hR:R[i]?=ς r) :
  (∀a,r=.fin a->∃v,F51 [.ref 0] (hz sh S (ς l) g)=ς (.g .non,hz sh {S with res:=ς v} (ς {l with dn:=l.dn+1}) g))∧
  ((∀a,r≠.fin a)->To sh F51 [.ref 0] (hz sh S (ς l) g) (Rowd x R.length sh (N+1) nm r l)):=by
 have k:=o.ok
 have Y:ixV (hz sh S (ς l) g) (.g (.t S.x.rows)) (.int l.pl)=ς (.g r.d):=by rw[k.hx,X.rows];exact(gK hi (by rw[qa8,hR];rfl)).2
 have hro:=X.rok r (qa4 hR);have L1:LOk sh N {l with dn:=l.dn+1}:=⟨o.lk.he,o.lk.du,o.lk.bx,o.lk.bn,o.lk.lg,o.lk.ln⟩;refine⟨λa e=>?_,λhf'=>?_⟩
 .subst e;have h1:=L1.wa (S:=S) (g:=g) a;have hg:=yI (S:=S) (lv:=.ref 13) (rf:=ae 16 sh) (tl:=ar (ς {l with dn:=l.dn+1}) (ao sh g)) (v:=wv (bv l.bx l.du) a);exact⟨wv (bv l.bx l.du) a,xR (.c 0 Y (.v 0 h1 (.v 0 hg .nil)))⟩
 .have⟨f,u,O,g1,d1,F1,W,G1⟩:=Dq r hf' (S:=S) (l:={l with dn:=l.dn+1}) (g:=g) (by rw[k.hx];exact X.X) (by rw[k.hx];exact hro) k.ft L1 k.gn (by rw[qc1];lia);obtain⟨U,hS1⟩:∃U:HS,U={S with fst:=f,unl:=u}:=⟨_,rfl⟩;rw[<- hS1]at d1;have hx1:U.x=x:=by rw[hS1];exact k.hx
  have hp1:U.plan=[]:=by rw[hS1];exact o.pl
  have O1:Ok x R.length sh (N+1) U g1:=by rw[hS1];exact⟨k.hx,k.up.ln,k.fp,F1,k.du,G1,k.rs⟩
  have⟨p,hp,d2⟩:=behind (S:=U) (l:=O) (g:=g1) r hf' (W.pl.trans hi) (by rw[hx1];exact X.onw i r hR) W.ok;have⟨j,rfl,hj⟩:=X.lead i r p hR hp;have L2:LOk sh (N+1) {O with pl:=j}:=⟨W.ok.he,W.ok.du,W.ok.bx,W.ok.bn,W.ok.lg,W.ok.ln⟩;have ne1:=Fp hf';have hk0:=z7 (ch:=hz sh S (ς {l with dn:=l.dn+1}) g) (r:=r);have cn:({O with pl:=j}:LS).dn=l.dn+1/\({O with pl:=j}:LS).he=l.he+r.he/\({O with pl:=j}:LS).sy=l.sy+r.sy:=⟨W.dn,W.he,W.sy⟩;cases z:am U.x.kk U.x.kv (qm6 (j:Int))with
  |none=>
   have hin:oIn.g (.int j) (.dct U.x.kk U.x.kv)=ς (.f (.bl ξ)):=by simp[oIn,orO,gIn,inD,rV,bQ,cJ,z]
   exact .here (S':=U) (lo':=ς {O with pl:=j}) (g':=g1) (xR (.c 0 Y (.c 0 hk0 (.t 0 ne1 (.v 0 d1 (.v 0 d2 (.t 0 hin .nil))))))) (nL _) ⟨_,rfl,cn,.inl ⟨O1,hp1,L2,j,rfl,hj⟩⟩
  |some d=>
   have⟨bs,rfl,hnd,h6,hnm⟩:=X.kv (.inl j) d (by rw[<- hx1];exact z);have hin:oIn.g (.int j) (.dct U.x.kk U.x.kv)=ς (.f (.bl θ)):=by simp[oIn,orO,gIn,inD,rV,bQ,cJ,z]
   have hix:ixV (hz sh U (ς {O with pl:=j}) g1) (.g (.dct U.x.kk U.x.kv)) (.int j)=ς (.g (.t (bs.map .str))):=by show(ixD _ _).map CV.g=_;simp[ixD,bQ,cJ,z]
   have⟨ts,t1,t2⟩:=vL L2.lg;have w5:=yP (S:=U) (g:=g1) (bs:=bs) (i:=j) (l:={O with pl:=j}) rfl L2 t1 Θ;have hln:ts.length<=N+1:=by have:=L2.ln;rw[t1]at this;simpa[lgK] using this
   obtain⟨PP,Z⟩:∃PP,PP=dG j O.dn O.he O.sy (bs.map λs=>(s,bv O.bx O.du s)) ts:=⟨_,rfl⟩;have w5':F50 [.ref 13,.g (.t (bs.map .str))] (hz sh U (ς {O with pl:=j}) g1)=ς (.ref ((ao sh g1).length+16),hl U {O with pl:=j} (ae 16 sh) (ao sh g1++[dl (PP.map Sm.d)])):=by rw[Z];exact w5
   have⟨p1,p2⟩:=vT (sh:=sh) (f:=U.pg) (k:=U.c) (a:=j) (b:=O.dn) (c:=O.he) (d:=O.sy) (ks:=bs.map λs=>(s,bv O.bx O.du s)) t2;rw[<- Z]at p1 p2;refine⟨{U with plan:=PP},ς {O with pl:=j},g1,(hl U {O with pl:=j} (ae 16 sh) (ao sh g1++[dl (PP.map Sm.d)])).set 0 (hO U (.ref 13) (.ref ((ao sh g1).length+16))),_,?_,?_,yR de,rfl,_,rfl,cn,.inr ⟨_,by show PP≠[];rw[Z];simp[dG],⟨O1.pl,?_,L2,⟨j,rfl,hj⟩,⟨0,p1⟩,p2,⟨hj,W.ok.he,?_,?_,t2⟩⟩,W.dn,W.he,W.sy,?_⟩⟩
   .exact xR (.c 0 Y (.c 0 hk0 (.t 0 ne1 (.v 0 d1 (.v 0 d2 (.t 0 hin (.c 0 hix (.v 0 w5' .nil))))))))
   .simp[hc,hbN,ar,dz]
   .show PP.length<=_;rw[Z];simp[dG,nO,bI];lia
   .rw[qd1];simpa[qb4] using hnd
   .intro b hb;have⟨s,_,rfl⟩:=qb9.mp hb;exact W.ok.bN s
   .intro b hb;have⟨s,hs,rfl⟩:=qb9.mp hb;refine⟨hnm s hs,λe=>?_⟩;show bv O.bx O.du s=_;rw[W.du];exact W.bx s e
theorem Aa{L:η Sm}(h:L≠[]):oGt.g (.int (L.map Sm.d).length) (.int 0)=ς (.f (.bl θ)):=by
 cases L with
 |nil=>exact absurd rfl h
 |cons s L=>show ς (T.f (.bl (decide _)))=_;rw[decide_eq_true Ξ]
theorem Ab(h:S.plan=[]):oGt.g (.int (S.plan.map Sm.d).length) (.int 0)=ς (.f (.bl ξ)):=by rw[h];rfl
theorem di(h:S.res=ψ):F24 [.ref 0] (hz sh S lo g)=ς (.g (.bl ξ),hz sh S lo g):=by have:=l9 (S:=S) (lv:=lvO lo) (rf:=ae (off lo) sh) (tl:=ar lo (ao sh g));rw[h]at this;exact this
theorem iB{v:Int}(h:S.res=ς v):F24 [.ref 0] (hz sh S lo g)=ς (.g (.bl θ),hz sh S lo g):=by have:=l9 (S:=S) (lv:=lvO lo) (rf:=ae (off lo) sh) (tl:=ar lo (ao sh g));rw[h]at this;exact this
theorem ld(O:S.res=ψ)(hp:S.plan≠[])(h:F37 [.ref 0] (hz sh S lo g)=ς (.g .non,ch')):F52 [.ref 0] (hz sh S lo g)=ς (.g .non,ch'):=xR (.v 0 (di (sh:=sh) (lo:=lo) (g:=g) O) (.d 0 (vl (ch:=hz sh S lo g) (i:=3) (L:=S.plan.map Sm.d) rfl) (.t 1 (Aa hp) (.v 0 h .nil))))
theorem vU(O:S.res=ψ)(hp:S.plan=[])(h:F51 [.ref 0] (hz sh S lo g)=ς (.g .non,ch')):F52 [.ref 0] (hz sh S lo g)=ς (.g .non,ch'):=xR (.v 0 (di (sh:=sh) (lo:=lo) (g:=g) O) (.d 0 (vl (ch:=hz sh S lo g) (i:=3) (L:=S.plan.map Sm.d) rfl) (.t 1 (Ab hp) (.v 0 h .nil))))
theorem jN{v:Int}(O:S.res=ς v):F52 [.ref 0] (hz sh S lo g)=ς (.g .non,hz sh S lo g):=xR (.v 0 (iB (sh:=sh) (lo:=lo) (g:=g) O) .nil)
theorem r6{v d:Int}(O:S.res=ς v):F63 [.ref 0,I d] (hz sh S lo g)=ς (.g .non,hz sh S lo g):=xR (.v 0 (iB (sh:=sh) (lo:=lo) (g:=g) O) .nil)
theorem To.run{F F':Fd}{cs:CH}(t:To sh F ag cs Q)(h:∀ch',F ag cs=ς (.g .non,ch')->F' ag cs=ς (.g .non,ch')):To sh F' ag cs Q:=let ⟨S,lo,g,cs',σ,h1,h2⟩:=t;⟨S,lo,g,cs',σ,h cs' h1,h2⟩
abbrev fld(S:HS)(d:Int):HS:={S with plan:=bI (S.pg S.c).ts++[.wake],dust:=d}
theorem yV{d:Int}(W:S.res=ψ)(hl:(S.pg S.c).ts.length<1000000):To sh F63 [.ref 0,I d] (hz sh S lo g) (λS' lo' g'=>S'=fld S d/\lo'=ψ/\g'=g):=by
 have U:=k6 (S:={S with dust:=d}) (lv:=.g .non) (rf:=ae (off lo) sh) (tl:=ar lo (ao sh g)) S.c;have O:=jJ (ch:=hb {S with dust:=d} (.g .non) (ae (off lo) sh) (ar lo (ao sh g))) (p:=S.pg S.c) (by rw[qc1];lia);refine⟨_,_,_,(hb S (lvO lo) (ae (off lo) sh) (ar lo (ao sh g)++[dl ((bI (S.pg S.c).ts++[Sm.wake]).map Sm.d)])).set 0 (hO {S with dust:=d} (.g .non) (.ref ((ar lo (ao sh g)).length+13))),_,?_,?_,yS (d:=d) (P:=bI (S.pg S.c).ts++[.wake]) de,rfl,rfl,rfl,rfl⟩
 .exact xR (.v 0 (di (sh:=sh) (lo:=lo) (g:=g) W) (.v 1 U (.v 0 O .nil)))
 .simp[hc,hbN,ar]
end
noncomputable def aw:Nat->Dt->Bool
 |_,.non|_,.bl _|_,.int _|_,.str _=>θ
 |k+1,.t l=>l.all (aw k)
 |k+1,.e l=>l.all (aw k)
 |_,_=>ξ
omit x in
theorem iC:∀{k:Nat}{d:Dt},aw k d=θ->bu d d=θ/\cR d<=k:=by
 have e:∀{k:Nat}{l:η Dt},(∀d∈l,bu d d=θ/\cR d<=k)->cmpbs l l=θ/\deeps l<=k:=λ{k l}=>by
  induction l with
  |nil=>intro _;exact⟨rfl,qg8 _⟩
  |cons d l O=>
   intro h;have h1:=O λe he=>h e (.tail _ he)
   have h2:=h d (.head _);exact⟨by simp[cmpbs,h1.1,h2.1],by simp[deeps];lia⟩
 intro k;induction k with
 |zero=>intro d h;cases d<;>first|(cases h;done)|exact⟨rfl,qg8 _⟩
 |succ k O=>
  intro d h;cases d<;>try(cases h;done)
  case t l=>have:=e λd U=>O (qc0.mp h d U);exact⟨this.1,by simp[cR];lia⟩
  case e l=>have:=e λd U=>O (qc0.mp h d U);exact⟨this.1,by simp[cR];lia⟩
  all_goals exact⟨rfl,qg8 _⟩
theorem cc:peqs l l=θ:=cQ (.e l)
omit x in
theorem pR{d:Dt}(h:aw 20 d=θ):eqD d d=ς θ:=by
 have:=iC h;cases d<;>first|(cases h;done)|rfl|skip
 all_goals first
  |(simp[eqdi,eqds,eqdb,eqdn];done)
  |skip
 case t l=>
  have h1:cmpbs l l=θ:=this.1;have h2:deeps l<=59:=by have:deeps l+1<=20:=this.2;lia
  simp[eqdt,Bw,h1,h2,cc]
 case e l=>
  have h1:cmpbs l l=θ:=this.1;have h2:deeps l<=59:=by have:deeps l+1<=20:=this.2;lia
  simp[eqdt,Bw,h1,h2,cc]
theorem ce{d:Dt}(h:aw 20 d=θ):oNe.g d d=ς (.f (.bl ξ)):=by show gEq θ d d=_;unfold gEq;rw[pR h];rfl
theorem iD{d:Dt}(h:aw 20 d=θ):oEq.g d d=ς (.f (.bl θ)):=by show gEq ξ d d=_;unfold gEq;rw[pR h];rfl
theorem fZ{α:Type}{f:α->Dt}{k:Nat}(h:∀a,aw k (f a)=θ)(l:η α):(l.map f).all (aw k)=θ:=qc0.mpr λd O=>by have⟨a,_,rfl⟩:=qb9.mp O;exact h a
theorem dj{k:Nat}(p:Pg):aw (k+5) p.d=θ:=by have h1:aw (k+4) (.e p.b)=θ:=fZ (λ_=>rfl) _;have h2:aw (k+4) (.e p.t)=θ:=fZ (λ_=>rfl) _;show(aw (k+4) (.e p.b)&&(aw (k+4) (.e p.t)&&θ))=θ;rw[h1,h2];rfl
theorem xRt{e:E}{g:η An}{L:η Prop}{r:Bool×CH}(a:Oa g L)(h:xT tb e δ ch (g,[])=ς (r,([],L.reverse)):=by kernel_rfl):evT tb e δ ch=ς r:=((eU tb e).2.1 _ _ _ _ _ h (kZ a.all trivial)).1
def whC:S->E
 |.sq (.wh _ c _) _=>c
 |.sq _ b=>whC b
 |_=>.nil
section
variable{x:Fx}{R:Nat}{sh:Sh}{N:Nat}{S:HS}{lo:ζ LS}{l:LS}{g:Vf}{q:Pg}
theorem bT(b:Bool):F16 [.ref 0,I (cI b)] (hz sh S lo g)=ς (.g (S.pg b).d,hz sh S lo g):=k6 b
theorem eg:F18 [.ref 0] (hz sh S lo g)=ς (I (cI S.c),hz sh S lo g):=rfl
theorem Ft:F23 [.ref 0] (hz sh S lo g)=ς (.g (rD S.res),hz sh S lo g):=rfl
theorem cf(O:S.res=ψ)(hp:S.plan=[]):F25 [.ref 0] (hz sh S (ς l) g)=ς (I l.pl,hz sh S (ς l) g):=xR (.v 0 (di (sh:=sh) (lo:=ς l) (g:=g) O) (.d 0 (vl (ch:=hz sh S (ς l) g) (i:=3) (L:=S.plan.map Sm.d) rfl) (.t 1 (Ab hp) .nil)))
theorem cg(O:S.res=ψ)(hp:S.plan≠[]):F25 [.ref 0] (hz sh S lo g)=ς (.g .non,hz sh S lo g):=xR (.v 0 (di (sh:=sh) (lo:=lo) (g:=g) O) (.d 0 (vl (ch:=hz sh S lo g) (i:=3) (L:=S.plan.map Sm.d) rfl) (.t 1 (Aa hp) .nil)))
theorem mt{v:Int}(O:S.res=ς v):F25 [.ref 0] (hz sh S lo g)=ς (.g .non,hz sh S lo g):=xR (.v 0 (iB (sh:=sh) (lo:=lo) (g:=g) O) .nil)
theorem yW(O:S.res=ψ)(hp:S.plan=[]):F67 [.ref 0] (hz sh S (ς l) g)=ς (I l.dn,hz sh S (ς l) g):=xR (.v 0 (cf (sh:=sh) (l:=l) (g:=g) O hp) .nil)
theorem yX(O:S.res=ψ)(hp:S.plan≠[]):F67 [.ref 0] (hz sh S lo g)=ς (I (S.pg S.c).dn,hz sh S lo g):=xR (.v 0 (cg (sh:=sh) (lo:=lo) (g:=g) O hp) (.v 1 (bT (sh:=sh) (S:=S) (lo:=lo) (g:=g) S.c) .nil))
theorem Ac(O:S.res=ψ)(hp:S.plan=[])(h:LOk sh N l)(n:Str):F28 [.ref 0,.g (.str n)] (hz sh S (ς l) g)=ς (I (bv l.bx l.du n),hz sh S (ς l) g):=xR (.v 0 (cf (sh:=sh) (l:=l) (g:=g) O hp) (.v 0 (h.wa (S:=S) (g:=g) (.inr n)) .nil))
theorem Fu(O:S.res=ψ)(hp:S.plan≠[])(n:Str):F28 [.ref 0,.g (.str n)] (hz sh S lo g)=ς (I 0,hz sh S lo g):=xR (.v 0 (cg (sh:=sh) (lo:=lo) (g:=g) O hp) .nil)
variable{n:Str}{k m:Nat}
theorem vW(W:(sh.map (·.1)).Nodup)(O:sh[k]?=ς (n,m))(hm:0<m):F56 [.ref 0,.g (.str n)] (hz sh S lo g)=ς (I (g n 0),hz sh S lo g):=by have U:F55 [.ref 1,.g (.str n)] (hz sh S lo g)=ς (I (g n 0),hz sh S lo g):=xR (.c 0 (vF (S:=S) (lo:=lo) (g:=g) W O) (.c 0 (ixL (ch:=hz sh S lo g) (i:=k+off lo) (p:=0) (vG O) (k9 hm)) .nil));exact xR (.v 0 U .nil)
theorem pS(W:(sh.map (·.1)).Nodup)(O:sh[k]?=ς (n,m)):F58 [.ref 0,.g (.str n)] (hz sh S lo g)=ς (.g (.e (row g (n,m))),hz sh S lo g):=by have U:F57 [.ref 1,.g (.str n)] (hz sh S lo g)=ς (.g (.e (row g (n,m))),hz sh S lo g):=xR (.c 0 (vF (S:=S) (lo:=lo) (g:=g) W O) (.d 0 (vl (ch:=hz sh S lo g) (i:=k+off lo) (L:=row g (n,m)) (vG O)) .nil));exact xR (.v 0 U .nil)
def lts(f:η (Key×Dt)):Nat->Nat->η Dt
 |0,_=>[]
 |k+1,i=>match am (f.map (·.1)) (f.map (·.2)) (qm6 (i:Int))with
  |some d=>d::lts f k (i+1)
  |none=>[]
omit x in
theorem vX{f:η (Key×Dt)}(h:FOk N f):∀{k i:Nat},∀d∈lts f k i,Vi d
 |0,_,d,O=>by cases O
 |k+1,i,d,O=>by
  unfold lts at O;split at O
  .rename_i e q;rcases qc3.mp O with rfl|O
   .exact(h.all _ (aQ q)).2
   .exact vX h d O
  .cases O
theorem r8{f:η (Key×Dt)}(h:FOk N f){k i:Nat}:aw (j+1) (.e (lts f k i))=θ:=qc0.mpr λd O=>by have⟨v,rfl,_⟩:=vX h d O;cases j<;>rfl
theorem pT:∀{l m:η Nat},l.Nodup->(∀i∈l,i∈m)->l.length<=m.length
 |[],_,_,_=>qg8 _
 |i::l,m,W,h=>by
  have O:=qc6.mp W;have hi:=h i (.head _);have:=pT (m:=m.erase i) O.2 λj U=>(List.mem_erase_of_ne (λe=>O.1 (by rw[<- e];exact U))).mpr (h j (.tail _ U))
  rw[List.length_erase_of_mem hi]at this;have:0<m.length:=List.length_pos_of_mem hi;simp;lia
theorem Ad{i:Nat}{l:η Dt}{d:Dt}(h:cG δ i=ς (.e l))(hl:l.length<qa5):sAs i (λ_ ch=>ς (.g d,ch)) δ ch=ς (.nx (δ.set i (ς (.own θ (.e (l++[d]))))) ch):=by unfold sAs;rw[h];exact if_pos hl
theorem yY{ch:CH}(h2:ch[2]?=ς (.ins 0 [.ref 8,.g (.bl S.unl)]))(h8:ch[8]?=ς (.dK (dp S.fst)))(hz:S.fst.length<qa5):∀{f:Nat}{l:η Dt},(∀i,i<l.length->(am (S.fst.map (·.1)) (S.fst.map (·.2)) (qm6 (i:Int))).isSome=θ)->S.fst.length<l.length+f->whZ (evT (av gc t60) (whC d60.b)) (evS (av gc t60) (foB d60.b)) f [ς (.ref 2),ς (.own θ (.e l))] ch=ς (.nx [ς (.ref 2),ς (.own θ (.e (l++lts S.fst f l.length)))] ch):=by
 have O:∀l:η Dt,(∀i,i<l.length->(am (S.fst.map (·.1)) (S.fst.map (·.2)) (qm6 (i:Int))).isSome=θ)->l.length<=S.fst.length:=λl h=>by
  have:=pT (l:=qc8 l.length) (m:=S.fst.map λp=>match p.1 with|.inl i=>i.toNat|.inr _=>0) ql8 λi hi=>by have⟨d,hd⟩:=qr7.mp (h i (qd5.mp hi));exact qb9.mpr ⟨_,aQ hd,Ξ⟩
  simpa using this
 have v8:vw ch (.ref 8)=ς (.dct (S.fst.map (·.1)) (S.fst.map (·.2))):=by show(ch[8]?).bind _=_;rw[h8];show(dats ((dp S.fst).map (·.2))).map (Dt.dct ((dp S.fst).map (·.1)))=_;rw[cC,cB];rfl
 intro f;induction f with
 |zero=>intro l h hl;have:=O l h;lia
 |succ f ih=>
  intro l h hl;have U:oIn.g (.int l.length) (.dct (S.fst.map (·.1)) (S.fst.map (·.2)))=ς (.f (.bl (am (S.fst.map (·.1)) (S.fst.map (·.2)) (qm6 (l.length:Int))).isSome)):=rfl;have Z:bLen.g [.e l]=ς (.f (.int l.length)):=rfl;unfold whZ lts;cases q:am (S.fst.map (·.1)) (S.fst.map (·.2)) (qm6 (l.length:Int))with
  |none=>rw[q]at U;rw[xRt (r:=(ξ,ch)) (.t 0 Z (.h 0 h2 (.d 0 v8 (.t 0 U .nil)))),qa0,qe5];rfl
  |some d=>
   rw[q]at U
   have hx:ixV ch (.ref 8) (.int l.length)=ς (.g d):=by show(ch[8]?).bind _=_;rw[h8];show lkC (dp S.fst) _=_;rw[mh,q];rfl
   rw[xRt (r:=(θ,ch)) (.t 0 Z (.h 0 h2 (.d 0 v8 (.t 0 U .nil)))),qa0];show((evS _ _ _ ch).bind _)=_;rw[xRs (o:=.nx [ς (.ref 2),ς (.own θ (.e (l++[d])))] ch) (.h 0 h2 (.t 0 Z (.c 0 hx (.o 0 (Ad (δ:=[ς (.ref 2),ς (.own θ (.e l))]) (i:=1) (d:=d) (ch:=ch) rfl (qk1 (O l h) hz)) .nil)))),qa0];have W:(l++[d]).length=l.length+1:=by simp
   have:=ih (l:=l++[d]) (λi hi=>by
    rw[W]at hi;rcases qi4 i l.length with Y|Y
    .exact h i Y
    .obtain rfl:i=l.length:=by lia
     rw[q];rfl) (by rw[W];lia)
   rw[W,qd8]at this;exact this
theorem r9(h:S.fst.length<1100):F61 [.ref 0] (hz sh S lo g)=ς (.g (.e (lts S.fst 1100 0)),hz sh S lo g):=by have k:=yY (S:=S) (ch:=hz sh S lo g) rfl rfl (by rw[qc1];lia) (f:=1100) (l:=[]) (λi hi=>by cases hi) (by rw[qf6];lia);rw[qp3,qf6]at k;generalize lts S.fst 1100 0=W at k ⊢;have O:F60 [.ref 2] (hz sh S lo g)=ς (.g (.e W),hz sh S lo g):=xR (.o 0 k .nil);exact xR (.v 0 O .nil)
end
abbrev Hd:=Str×Int×Bool
noncomputable def Hd.d(h:Hd):Dt:=.t [.str h.1,.int h.2.1,.bl h.2.2]
noncomputable def shC(cs:η Hd):Sh:=cs.map λh=>(h.1,1)
noncomputable def shS(ss:η Hd):Sh:=ss.map λh=>(h.1,h.2.1.toNat)
abbrev pD(cs ss:η Hd)(rw:Dt):Dt:=.t [.t (cs.map Hd.d),.t (ss.map Hd.d),rw]
def foN:Nat->S->S
 |0,.sq (.fo _ _ b) _=>b
 |k+1,.sq (.fo _ _ _) r=>foN k r
 |k,.sq _ r=>foN k r
 |_,_=>.nil
abbrev Plc:=Str×Nat
def pK(q:Plc):η Key:=[.inr q.1,.inl (q.2:Int)]
def hmL(P:η Plc)(g:Vf):η (η Key×Dt):=P.map λq=>(pK q,.int (g q.1 q.2))
def plS(ss:η Hd):η Plc:=ss.flatMap λh=>(qc8 h.2.1.toNat).map λp=>(h.1,p)
def aJ(cs ss:η Hd):η Plc:=cs.map (λh=>(h.1,0))++plS ss
section
variable{P:η Plc}{g:Vf}{q r:Plc}{v:Int}
omit x in
theorem pU{κ:Type}[DecidableEq κ]{k:κ}{d:Dt}:∀{b:η (κ×Dt)},am (b.map (·.1)) (b.map (·.2)) k=ψ->aG b k d=b++[(k,d)]
 |[],_=>rfl
 |p::b,h=>by
  rwa[qa3,am]at h;unfold aG;split at h
  .cases h
  .rename_i e;rw[if_neg e,pU h];rfl
theorem nY(h:pK q=pK r):q=r:=by rwa[pK,qs9,ze6,qm6.injEq,and_true]at h;exact Prod.ext h.1 Θ
theorem Fv(h:P.Nodup):((hmL P g).map (·.1)).Nodup:=by
 have e:(hmL P g).map (·.1)=P.map pK:=by simp[hmL,qb4]
 rw[e];exact qh9 _ (λa b h e=>h (nY e)) h
theorem Du(h:q∉P):aG (hmL P g) (pK q) (.int (g q.1 q.2))=hmL (P++[q]) g:=by
 rw[pU]
 .simp[hmL]
 .cases e:am ((hmL P g).map (·.1)) ((hmL P g).map (·.2)) (pK q)with
  |none=>rfl
  |some d=>have⟨r,O,e⟩:=qb9.mp (aQ e);rw[nY (congrArg Prod.fst e)]at O;exact absurd O h
theorem Dv(h:q∉P):hmL P (fu g q.1 q.2 v)=hmL P g:=qg3 λr O=>by unfold fu;rw[if_neg λe=>h (by rw[<- show r=q from Prod.ext e.1 e.2];exact O)]
theorem vY:∀{P:η Plc},P.Nodup->q∈P->aG (hmL P g) (pK q) (.int v)=hmL P (fu g q.1 q.2 v)
 |r::P,U,h=>by
  have O:=qc6.mp U;show aG ((pK r,Dt.int (g r.1 r.2))::hmL P g) (pK q) (.int v)=(pK r,Dt.int (fu g q.1 q.2 v r.1 r.2))::hmL P (fu g q.1 q.2 v);unfold aG;by_cases e:r=q
  .subst e;rw[if_pos rfl,Dv O.1];simp[fu]
  .rw[if_neg λz=>e (nY z),vY O.2 ((qc3.mp h).resolve_left (qj5 e))];unfold fu;rw[if_neg λz=>e (Prod.ext z.1 z.2)]
theorem nZ{fk:Fg}{i:Nat}{x d:Dt}{t t':T}(he:fe δ ch=ς (.g x,ch))(O:fk δ ch=ς (.g d,ch))(hs:cG δ i=ς t)(hp:yi t d x=ς t'):sPs i fk fe δ ch=ς (.nx (δ.set i (ς (.own θ t'))) ch):=by unfold sPs;rw[he,qa0,O,qa0];show(cG δ i).bind _=_;rw[hs,qa0,hp];rfl
end
abbrev hmE(h:Nat)(pg:Dt)(z:CV)(a3 a4 a5 a6 a7 a8:ζ CV):Sl:=[ς (.ref h),ς (.g pg),ς z,a3,a4,a5,a6,a7,a8]
variable{a6 a7 a8 a4:ζ CV}
section
variable{G:η Plc->Prop}{B1 B2 B3:Fs}{h:Nat}{pg:Dt}{g:Vf}{st:η Plc->CV×CH}
theorem n5(hG:∀a b,G (a++b)->G a){Q:Hd->Prop}(Z:∀P (c:Hd) a6 a7 a8,Q c->G (P++[((c.1,0):Plc)])->B1 (hmE h pg (st P).1 (ς (.g (.str c.1))) (ς (I c.2.1)) (ς (.g (.bl c.2.2))) a6 a7 a8) (st P).2=ς (.nx (hmE h pg (st (P++[(c.1,0)])).1 (ς (.g (.str c.1))) (ς (I c.2.1)) (ς (.g (.bl c.2.2))) a6 a7 a8) (st (P++[(c.1,0)])).2)):∀{cs:η Hd}{P:η Plc}{a3 a4 a5:ζ CV},(∀c∈cs,Q c)->G (P++cs.map λc=>((c.1,0):Plc))->∃Y U W,bM (bnd (.many [3,4,5])) B1 (cs.map Hd.d) (hmE h pg (st P).1 a3 a4 a5 a6 a7 a8) (st P).2=ς (.nx (hmE h pg (st (P++cs.map λc=>((c.1,0):Plc))).1 Y U W a6 a7 a8) (st (P++cs.map λc=>((c.1,0):Plc))).2)
 |[],P,a3,a4,a5,_,_=>⟨a3,a4,a5,by rwa[qf8,qe5];rfl⟩
 |c::cs,P,a3,a4,a5,hc,O=>by
  have e:P++(c::cs).map (λc=>((c.1,0):Plc))=(P++[(c.1,0)])++cs.map λc=>((c.1,0):Plc):=by simp
  rw[e]at O ⊢;have⟨Y,U,W,i⟩:=n5 hG Z (cs:=cs) (P:=P++[(c.1,0)]) (a3:=ς (.g (.str c.1))) (a4:=ς (I c.2.1)) (a5:=ς (.g (.bl c.2.2))) (λd hd=>hc d (.tail _ hd)) O;exact⟨Y,U,W,qu1 (br (δ':=hmE h pg (st P).1 (ς (.g (.str c.1))) (ς (I c.2.1)) (ς (.g (.bl c.2.2))) a6 a7 a8) rfl (Z P c a6 a7 a8 (hc c (.head _)) (hG _ _ O))) i⟩
theorem n6(Y:∀a b,G (a++b)->G a){n:Str}{L:CV}{a5:ζ CV}(W:∀P p,p<m->G (P++[((n,p):Plc)])->B3 (hmE h pg (st P).1 (ς (.g (.str n))) a4 a5 a6 (ς L) (ς (I (0+(p:Nat))))) (st P).2=ς (.nx (hmE h pg (st (P++[(n,p)])).1 (ς (.g (.str n))) a4 a5 a6 (ς L) (ς (I (0+(p:Nat))))) (st (P++[(n,p)])).2)):∀{ps:η Nat}{P:η Plc}{a8:ζ CV},(∀p∈ps,p<m)->G (P++ps.map λp=>((n,p):Plc))->∃U,bM (bnd (.one 8)) B3 (ps.map λ(p:Nat)=>.int (0+p)) (hmE h pg (st P).1 (ς (.g (.str n))) a4 a5 a6 (ς L) a8) (st P).2=ς (.nx (hmE h pg (st (P++ps.map λp=>((n,p):Plc))).1 (ς (.g (.str n))) a4 a5 a6 (ς L) U) (st (P++ps.map λp=>((n,p):Plc))).2)
 |[],P,a8,_,_=>⟨a8,by rwa[qf8,qe5];rfl⟩
 |p::ps,P,a8,Z,O=>by
  have e:P++(p::ps).map (λp=>((n,p):Plc))=(P++[(n,p)])++ps.map λp=>((n,p):Plc):=by simp
  rw[e]at O ⊢;have⟨U,i⟩:=n6 Y W (ps:=ps) (P:=P++[(n,p)]) (a8:=ς (I (0+(p:Nat)))) (λq hq=>Z q (.tail _ hq)) O;exact⟨U,qu1 (br (δ':=hmE h pg (st P).1 (ς (.g (.str n))) a4 a5 a6 (ς L) (ς (I (0+(p:Nat))))) rfl (W P p (Z p (.head _)) (Y _ _ O))) i⟩
theorem n8(hG:∀a b,G (a++b)->G a){Q:Hd->Prop}(hB:∀P (c:Hd) a4 a7 a8,Q c->G (P++(qc8 c.2.1.toNat).map λp=>((c.1,p):Plc))->∃O U,B2 (hmE h pg (st P).1 (ς (.g (.str c.1))) a4 (ς (.g (.bl c.2.2))) (ς (I c.2.1)) a7 a8) (st P).2=ς (.nx (hmE h pg (st (P++(qc8 c.2.1.toNat).map λp=>((c.1,p):Plc))).1 (ς (.g (.str c.1))) a4 (ς (.g (.bl c.2.2))) (ς (I c.2.1)) O U) (st (P++(qc8 c.2.1.toNat).map λp=>((c.1,p):Plc))).2)){a4:ζ CV}:∀{ss:η Hd}{P:η Plc}{a3 a5 a6 a7 a8:ζ CV},(∀c∈ss,Q c)->G (P++plS ss)->∃b3 Z Y O U,bM (bnd (.many [3,6,5])) B2 (ss.map Hd.d) (hmE h pg (st P).1 a3 a4 a5 a6 a7 a8) (st P).2=ς (.nx (hmE h pg (st (P++plS ss)).1 b3 a4 Z Y O U) (st (P++plS ss)).2)
 |[],P,a3,a5,a6,a7,a8,_,_=>⟨a3,a5,a6,a7,a8,by have e:P++plS []=P:=qe5 P;rw[e];rfl⟩
 |c::ss,P,a3,a5,a6,a7,a8,hc,W=>by
  have e:P++plS (c::ss)=(P++(qc8 c.2.1.toNat).map λp=>((c.1,p):Plc))++plS ss:=by simp[plS]
  rw[e]at W ⊢;have⟨c7,c8,j⟩:=hB P c a4 a7 a8 (hc c (.head _)) (hG _ _ W);have⟨b3,Z,Y,O,U,i⟩:=n8 hG hB (a4:=a4) (ss:=ss) (a3:=ς (.g (.str c.1))) (a5:=ς (.g (.bl c.2.2))) (a6:=ς (I c.2.1)) (a7:=c7) (a8:=c8) (λd hd=>hc d (.tail _ hd)) W;exact⟨b3,Z,Y,O,U,qu1 (br (δ':=hmE h pg (st P).1 (ς (.g (.str c.1))) a4 (ς (.g (.bl c.2.2))) (ς (I c.2.1)) a7 a8) rfl j) i⟩
end
section
variable{sh:Sh}{S:HS}{lo:ζ LS}{g:Vf}{ρ:Nat->Nat}{b:CH}{Q:HS->ζ LS->Vf->Prop}
theorem Ae:Cl (hz sh S lo g):=Fq de
theorem n9:0<(hz sh S lo g).length:=by show 0<_+1;lia
theorem hz_a:(CV.ref 0::ds.map .g).all (clV (hz sh S lo g).length)=θ:=by have:=n9 (sh:=sh) (S:=S) (lo:=lo) (g:=g);simp[clV];lia
theorem Af:rnA ρ (.ref 0::ds.map .g)=.ref (ρ 0)::ds.map .g:=by simp[rn,qb4]
theorem To.mv{F:Fd}(W:TrD F)(t:To sh F (.ref 0::ds.map .g) (hz sh S lo g) Q)(h:At ρ (hz sh S lo g) b):∃S' lo' g' ρ' b',Q S' lo' g'/\F (.ref (ρ 0)::ds.map .g) b=ς (.g .non,b')/\Mv ρ (hz sh S lo g) b ρ' (hz sh S' lo' g') b':=by have⟨S',lo',g',cs',σ,h1,h2,U,h4,Y⟩:=t;have⟨ρ',b',O,k2⟩:=(Rn.of W Ae hz_a h1 h2 U h4 n9).mv h;rw[Af]at O;exact⟨S',lo',g',ρ',b',Y,O,k2⟩
theorem At.pur{F:Fd}{d:Dt}(h:At ρ (hz sh S lo g) b)(U:TrD F)(O:F (.ref 0::ds.map .g) (hz sh S lo g)=ς (.g d,hz sh S lo g)):F (.ref (ρ 0)::ds.map .g) b=ς (.g d,b):=by have:=h.pure U Ae hz_a O;rw[Af]at this;exact this
theorem gM(h:At ρ (hz sh S lo g) b):∃l,b[ρ 0]?=ς (.ins 3 l):=⟨_,h.get (i:=0) rfl⟩
theorem lh{cs:CH}(h:At ρ cs b)(L:CH):At ρ cs (b++L):=⟨h.inj,λhi=>by have:=h.get hi;rw[gL (ai this)];exact this⟩
theorem Dw{cs:CH}{z:Nat}{o:CO}(h:At ρ cs b)(hz:∀i,i<cs.length->ρ i≠z):At ρ cs (b.set z o):=⟨h.inj,λ{i o'} hi=>by rw[gN (qj5 (hz i (ai hi)))];exact h.get hi⟩
theorem oe{o:CO}:(b++[o])[b.length]?=ς o:=Ξ
theorem yZ{o:CO}:(b++[o]).set b.length o'=b++[o']:=Ξ
theorem Dx{c h:Nat}{F:Fd}{W:η CV}{d:Dt}{i:Nat}(h1:b[h]?=ς (.ins c W))(U:F [.ref h,.g d] b=ς (.g e,b))(hδ:δ[i]?=ς (ς (.ref h)))(O:δ[j]?=ς (ς (.g d))):eMe c 2 F (eV i) (aCn (eV j) aNl) δ b=ς (.g e,b):=by unfold eMe eV kCa;rw[hδ];rwa[lent,qa0,qa9,h1,if_true,aCn,aNl,eV,O];exact U
end
structure Nm(sh:Sh)(cs ss:List Hd):Prop where
 nd:(sh.map (·.1)).Nodup
 c:∀h∈cs,∃k:Nat,sh[k]?=ς (h.1,1)
 s:∀h∈ss,(∃k:Nat,sh[k]?=ς (h.1,h.2.1.toNat))/\0<=h.2.1/\h.2.1<=1000
 pn:(aJ cs ss).Nodup
 pm:∀n p,Vp sh n p->((n,p):Plc)∈aJ cs ss
 ln:(aJ cs ss).length<=200000
def hmD(cs ss:η Hd)(g:Vf):Dt:=.dcT ((hmL (aJ cs ss) g).map (·.1)) ((hmL (aJ cs ss) g).map (·.2))
section
variable{sh:Sh}{cs ss:η Hd}{S:HS}{lo:ζ LS}{g:Vf}{ρ:Nat->Nat}{b:CH}{rw:Dt}
theorem Ag{s:Int}(h:0<=s/\s<=1000):cU s=θ:=by have⟨m,rfl⟩:=qf4 h.1;unfold cU;simp;lia
def Beg(cs ss:η Hd)(P:η Plc):Prop:=∃L,P++L=aJ cs ss
theorem dA(a b:η Plc)(h:Beg cs ss (a++b)):Beg cs ss a:=by have⟨L,e⟩:=h;exact⟨b++L,by rw[<- qd8];exact e⟩
theorem vZ{P:η Plc}{q:Plc}(w:Nm sh cs ss)(h:Beg cs ss (P++[q])):(hmL P g).length<qa5/\((hmL P g).map (·.1)).Nodup/\aG (hmL P g) (pK q) (.int (g q.1 q.2))=hmL (P++[q]) g:=by have⟨L,e⟩:=h;have h1:=w.pn;have h2:=w.ln;rw[<- e]at h1 h2;have O:=qe8.mp (qe8.mp h1).1;refine⟨by rw[qc1];simp[hmL]at h2 ⊢;lia,Fv O.1,Du λz=>O.2.2 _ z _ (.head _) rfl⟩
theorem v5{P:η Plc}{q:Plc}(w:Nm sh cs ss)(h:Beg cs ss (P++[q])):yi (.dcT (hmL P g)) (.t [.str q.1,.int q.2]) (.int (g q.1 q.2))=ς (.dcT (hmL (P++[q]) g)):=by have⟨h1,h2,O⟩:=vZ (g:=g) w h;show(if(hmL P g).length<qa5/\((hmL P g).map (·.1)).Nodup then ς (T.dcT (aG (hmL P g) (pK q) (.int (g q.1 q.2))))else ψ)=_;rw[if_pos ⟨h1,h2⟩,O]
theorem Dy{P:η Plc}{q:Plc}(w:Nm sh cs ss)(h:Beg cs ss (P++[q])):eN (.dT (dp (hmL P g))) (.t [.str q.1,.int q.2]) (I (g q.1 q.2))=ς (.dT (dp (hmL (P++[q]) g))):=by have⟨h1,h2,O⟩:=vZ (g:=g) w h;show(if(dp (hmL P g)).length<qa5 then ς (CO.dT (bc (dp (hmL P g)) (pK q) (I (g q.1 q.2))))else ψ)=_;rw[if_pos (by rw[k4];exact h1),iy,O]
theorem v6{n:Str}{p:Nat}(hp:p<m):ixV ch (.g (.e (row g (n,m)))) (.int (0+(p:Int)))=ς (I (g n p)):=(gK (i:=p) (qm5 _) (k9 hp)).1
abbrev hv1:Fs:=evS (av gc t59) (foN 0 d59.b)
abbrev hv2:Fs:=evS (av gc t59) (foN 1 d59.b)
abbrev hv3:Fs:=evS (av gc t59) (foN 0 (foN 1 d59.b))
theorem oh(w:Nm sh cs ss)(A:At ρ (hz sh S lo g) b):F59 [.ref (ρ 0),.g (pD cs ss rw)] b=ς (.g (hmD cs ss g),b):=by
 have⟨hf,h1⟩:=gM A;obtain⟨pg,O⟩:∃pg,pg=pD cs ss rw:=⟨_,rfl⟩
 have⟨b3,b4,b5,i1⟩:=n5 (B1:=hv1) (h:=ρ 0) (pg:=pg) (st:=λP=>(.own θ (.dcT (hmL P g)),b)) (G:=Beg cs ss) dA (Q:=λc=>c∈cs) (cs:=cs) (P:=[]) (a3:=ψ) (a4:=ψ) (a5:=ψ) (a6:=ψ) (a7:=ψ) (a8:=ψ) (λP c a6 a7 a8 hc U=>by have⟨k,W⟩:=w.c c hc;have Y:=At.pur A (ds:=[.str c.1]) (ah _) (vW (S:=S) (lo:=lo) (g:=g) w.nd W Θ);exact xRs (.o 0 (nZ (i:=2) (fk:=eTu (aCn (eV 3) (aCn (eK (.int 0)) aNl))) (Dx (δ:=hmE (ρ 0) pg (.own θ (.dcT (hmL P g))) (ς (.g (.str c.1))) (ς (I c.2.1)) (ς (.g (.bl c.2.2))) a6 a7 a8) (i:=0) (j:=3) h1 Y rfl rfl) rfl rfl (v5 (q:=(c.1,0)) w U)) .nil)) (λc hc=>hc) ⟨plS ss,rfl⟩
 have⟨d3,d5,d6,d7,d8,i2⟩:=n8 (B2:=hv2) (h:=ρ 0) (pg:=pg) (st:=λP=>(.own θ (.dcT (hmL P g)),b)) (G:=Beg cs ss) dA (Q:=λc=>c∈ss) (ss:=ss) (P:=[]++cs.map λc=>((c.1,0):Plc)) (a3:=b3) (a4:=b4) (a5:=b5) (a6:=ψ) (a7:=ψ) (a8:=ψ) (λP c a4 a7 a8 hc U=>by
  have⟨⟨k,W⟩,Z⟩:=w.s c hc;have Y:=At.pur A (ds:=[.str c.1]) (ah _) (pS (S:=S) (lo:=lo) (g:=g) w.nd W)
  have⟨c8,i3⟩:=n6 (B3:=hv3) (h:=ρ 0) (pg:=pg) (st:=λP=>(.own θ (.dcT (hmL P g)),b)) (G:=Beg cs ss) dA (n:=c.1) (L:=.g (.e (row g (c.1,c.2.1.toNat)))) (a4:=a4) (a5:=ς (.g (.bl c.2.2))) (a6:=ς (I c.2.1)) (m:=c.2.1.toNat) (ps:=qc8 c.2.1.toNat) (P:=P) (a8:=a8) (λP p hp U=>by have rx:=v6 (n:=c.1) (g:=g) (ch:=b) hp;exact xRs (.o 0 (nZ (i:=2) (fk:=eTu (aCn (eV 3) (aCn (eV 8) aNl))) (fe:=eIx (eV 7) (eV 8)) (x:=.int (g c.1 p)) (d:=.t [.str c.1,.int (0+(p:Int))]) (δ:=hmE (ρ 0) pg (.own θ (.dcT (hmL P g))) (ς (.g (.str c.1))) a4 (ς (.g (.bl c.2.2))) (ς (I c.2.1)) (ς (.g (.e (row g (c.1,c.2.1.toNat))))) (ς (I (0+(p:Int))))) (ch:=b) (by show(ixV b (.g (.e (row g (c.1,c.2.1.toNat)))) (.int (0+(p:Int)))).map _=_;rw[rx];rfl) rfl rfl (by rw[qm5];exact v5 (q:=(c.1,p)) w U)) .nil)) (λp hp=>qd5.mp hp) U
  exact⟨ς (.g (.e (row g (c.1,c.2.1.toNat)))),c8,xRs (.h 0 h1 (.v 0 Y (.o 0 (aH (pt:=.one 8) (g:=hv3) (ds:=ay 0 c.2.1.toNat) (fi:=iR 1 (aCn (eV 6) aNl)) (δ:=hmE (ρ 0) pg (.own θ (.dcT (hmL P g))) (ς (.g (.str c.1))) a4 (ς (.g (.bl c.2.2))) (ς (I c.2.1)) (ς (.g (.e (row g (c.1,c.2.1.toNat))))) a8) (C3 (j:=c.2.1) rfl (Ag Z)) i3) .nil)))⟩) (λc hc=>hc) ⟨[],by rw[qe5];rfl⟩
 rw[<- O];have j1:=aH (fi:=iE (eIx (eV 1) (eK (.int 0)))) (pt:=.many [3,4,5]) (g:=hv1) (ds:=cs.map Hd.d) (ch:=b) (δ:=hmE (ρ 0) pg (.own θ (.dcT [])) ψ ψ ψ ψ ψ ψ) (by rw[O];rfl) i1;have j2:=aH (fi:=iE (eIx (eV 1) (eK (.int 1)))) (pt:=.many [3,6,5]) (g:=hv2) (ds:=ss.map Hd.d) (ch:=b) (by rw[O];rfl) i2;exact xR (.o 0 j1 (.o 0 j2 .nil))
abbrev ho1:Fs:=evS (av gc t66) (foN 0 d66.b)
abbrev ho2:Fs:=evS (av gc t66) (foN 1 d66.b)
abbrev ho3:Fs:=evS (av gc t66) (foN 0 (foN 1 d66.b))
theorem v7(w:Nm sh cs ss)(A:At ρ (hz sh S lo g) b):F66 [.ref (ρ 0),.g (pD cs ss rw)] b=ς (.ref b.length,b++[.dT (dp (hmL (aJ cs ss) g))]):=by
 obtain⟨pg,O⟩:∃pg,pg=pD cs ss rw:=⟨_,rfl⟩;let st:η Plc->CV×CH:=λP=>(.ref b.length,b++[.dT (dp (hmL P g))])
 have put:=λ(P:η Plc)(q:Plc)(h:Beg cs ss (P++[q]))=>Dy (g:=g) w h
 have e1:=λP=>oe (b:=b) (o:=.dT (dp (hmL P g)))
 have Y:=λP Q=>yZ (b:=b) (o:=.dT (dp (hmL P g))) (o':=.dT (dp (hmL Q g)))
 have⟨b3,b4,b5,i1⟩:=n5 (B1:=ho1) (h:=ρ 0) (pg:=pg) (st:=st) (G:=Beg cs ss) dA (Q:=λc=>c∈cs) (cs:=cs) (P:=[]) (a3:=ψ) (a4:=ψ) (a5:=ψ) (a6:=ψ) (a7:=ψ) (a8:=ψ) (λP c a6 a7 a8 hc W=>by have⟨k,Z⟩:=w.c c hc;have U:=lh A [.dT (dp (hmL P g))];have⟨hf,h1⟩:=gM U;have c1:=At.pur U (ds:=[.str c.1]) (ah _) (vW (S:=S) (lo:=lo) (g:=g) w.nd Z Θ);show _=ς (Og.nx _ (b++[.dT (dp (hmL (P++[(c.1,0)]) g))]));rw[<- Y P];exact xRs (.h 0 h1 (.v 0 c1 (.h 0 (e1 P) (.p 0 (w:=eN (.dT (dp (hmL P g))) (.t [.str c.1,.int 0]) (I (g c.1 0))) (put P (c.1,0) W) .nil))))) (λc hc=>hc) ⟨plS ss,rfl⟩
 have⟨d3,d5,d6,d7,d8,i2⟩:=n8 (B2:=ho2) (h:=ρ 0) (pg:=pg) (st:=st) (G:=Beg cs ss) dA (Q:=λc=>c∈ss) (ss:=ss) (P:=[]++cs.map λc=>((c.1,0):Plc)) (a3:=b3) (a4:=b4) (a5:=b5) (a6:=ψ) (a7:=ψ) (a8:=ψ) (λP c a4 a7 a8 hc W=>by
  have⟨⟨k,Z⟩,hs⟩:=w.s c hc;have U:=lh A [.dT (dp (hmL P g))];have⟨hf,h1⟩:=gM U;have c1:=At.pur U (ds:=[.str c.1]) (ah _) (pS (S:=S) (lo:=lo) (g:=g) w.nd Z)
  have⟨c8,i3⟩:=n6 (B3:=ho3) (h:=ρ 0) (pg:=pg) (st:=st) (G:=Beg cs ss) dA (n:=c.1) (L:=.g (.e (row g (c.1,c.2.1.toNat)))) (a4:=a4) (a5:=ς (.g (.bl c.2.2))) (a6:=ς (I c.2.1)) (m:=c.2.1.toNat) (ps:=qc8 c.2.1.toNat) (P:=P) (a8:=a8) (λP p hp W=>by
   have rx:=v6 (n:=c.1) (g:=g) (ch:=b++[.dT (dp (hmL P g))]) hp;have pp:eN (.dT (dp (hmL P g))) (.t [.str c.1,.int (0+(p:Int))]) (I (g c.1 p))=ς (.dT (dp (hmL (P++[(c.1,p)]) g))):=by rw[qm5];exact put P (c.1,p) W
   show _=ς (Og.nx _ (b++[.dT (dp (hmL (P++[(c.1,p)]) g))]));rw[<- Y P];exact xRs (.c 0 rx (.h 0 (e1 P) (.p 0 pp .nil)))) (λp hp=>qd5.mp hp) W
  exact⟨ς (.g (.e (row g (c.1,c.2.1.toNat)))),c8,xRs (.h 0 h1 (.v 0 c1 (.o 0 (aH (pt:=.one 8) (g:=ho3) (ds:=ay 0 c.2.1.toNat) (fi:=iR 1 (aCn (eV 6) aNl)) (ch:=b++[CO.dT (dp (hmL P g))]) (ch1:=b++[CO.dT (dp (hmL P g))]) (δ:=hmE (ρ 0) pg (.ref b.length) (ς (.g (.str c.1))) a4 (ς (.g (.bl c.2.2))) (ς (I c.2.1)) (ς (.g (.e (row g (c.1,c.2.1.toNat))))) a8) (C3 (j:=c.2.1) rfl (Ag hs)) i3) .nil)))⟩) (λc hc=>hc) ⟨[],by rw[qe5];rfl⟩
 rw[<- O];have j1:=aH (fi:=iE (eIx (eV 1) (eK (.int 0)))) (pt:=.many [3,4,5]) (g:=ho1) (ds:=cs.map Hd.d) (ch:=b++[CO.dT []]) (δ:=hmE (ρ 0) pg (.ref b.length) ψ ψ ψ ψ ψ ψ) (by rw[O];rfl) i1;have j2:=aH (fi:=iE (eIx (eV 1) (eK (.int 1)))) (pt:=.many [3,6,5]) (g:=ho2) (ds:=ss.map Hd.d) (by rw[O];rfl) i2;exact xR (.o 0 j1 (.o 0 j2 .nil))
end
def In(sh:Sh)(h:Nat)(S:HS)(lo:ζ LS)(g:Vf)(b:CH):Prop:=∃ ρ,At ρ (hz sh S lo g) b/\ρ 0=h
section
variable{sh:Sh}{h:Nat}{S:HS}{lo:ζ LS}{g:Vf}{b:CH}{Q:HS->ζ LS->Vf->Prop}
theorem In.pur{F:Fd}{d:Dt}(w:In sh h S lo g b)(U:TrD F)(O:F (.ref 0::ds.map .g) (hz sh S lo g)=ς (.g d,hz sh S lo g)):F (.ref h::ds.map .g) b=ς (.g d,b):=by have⟨ρ,A,rfl⟩:=w;exact At.pur A U O
theorem In.to{F:Fd}(w:In sh h S lo g b)(O:TrD F)(t:To sh F (.ref 0::ds.map .g) (hz sh S lo g) Q):∃S' lo' g' b',Q S' lo' g'/\F (.ref h::ds.map .g) b=ς (.g .non,b')/\In sh h S' lo' g' b':=by have⟨ρ,A,rfl⟩:=w;have⟨S',lo',g',ρ',b',h1,h2,v⟩:=To.mv O t A;exact⟨S',lo',g',b',h1,h2,ρ',v.at_,v.zero⟩
theorem In.h1(w:In sh h S lo g b):∃q,b[h]?=ς (.ins 3 q):=by have⟨ρ,A,rfl⟩:=w;exact gM A
end
variable{N:Nat}
section
variable{sh:Sh}{cs ss:η Hd}{S:HS}{lo:ζ LS}{g:Vf}{h:Nat}{b:CH}{rw:Dt}{ns:η Str}
def stD(cs ss:η Hd)(S:HS)(g:Vf):Dt:=.e [hmD cs ss g,rD S.res,(S.pg ξ).d,(S.pg θ).d,.int (cI S.c),.e (lts S.fst 1100 0)]
theorem iF(w:Nm sh cs ss)(A:In sh h S lo g b)(hf:S.fst.length<1100):F62 [.ref h,.g (pD cs ss rw)] b=ς (.g (stD cs ss S g),b):=by have⟨q,h1⟩:=A.h1;have U:=A.pur (ds:=[]) (ah _) (r9 (sh:=sh) (lo:=lo) (g:=g) hf);have p0:F16 [.ref h,I 0] b=ς (.g (S.pg ξ).d,b):=A.pur (ds:=[.int 0]) (ah _) (bT (sh:=sh) (S:=S) (lo:=lo) (g:=g) ξ);have Y:F16 [.ref h,I 1] b=ς (.g (S.pg θ).d,b):=A.pur (ds:=[.int 1]) (ah _) (bT (sh:=sh) (S:=S) (lo:=lo) (g:=g) θ);have an:=A.pur (ds:=[]) (ah _) (Ft (sh:=sh) (S:=S) (lo:=lo) (g:=g));have fc:=A.pur (ds:=[]) (ah _) (eg (sh:=sh) (S:=S) (lo:=lo) (g:=g));have⟨ρ,A',Z⟩:=A;have O:=oh (rw:=rw) w A';rw[Z]at O;unfold stD;generalize lts S.fst 1100 0=W at U ⊢;exact xR (.v 0 O (.h 0 h1 (.v 0 an (.h 0 h1 (.v 0 p0 (.h 0 h1 (.v 0 Y (.h 0 h1 (.v 0 fc (.h 0 h1 (.v 0 U .nil)))))))))))
theorem pV:((hmL (aJ cs ss) g).map (·.2)).all aN=θ:=qc0.mpr λd O=>by rwa[hmL,qd1,qb9]at O;have⟨q,_,rfl⟩:=O;rfl
theorem mw(U:FOk N S.fst):oEqL.g (stD cs ss S g) (stD cs ss S g)=ς (.f (.bl θ)):=by
 have pl:aw 20 (.e [rD S.res,(S.pg ξ).d,(S.pg θ).d,.int (cI S.c),.e (lts S.fst 1100 0)])=θ:=by
  have h1:aw 19 (.e (lts S.fst 1100 0))=θ:=r8 U;have h2:∀o,aw 19 (rD o)=θ:=λo=>by cases o<;>rfl
  show(aw 19 (rD S.res)&&(aw 19 (S.pg ξ).d&&(aw 19 (S.pg θ).d&&(θ&&(aw 19 (.e (lts S.fst 1100 0))&&θ)))))=θ;rw[h1,h2,dj (k:=14),dj (k:=14)];rfl
 have ps:=iC pl;have fl:=pV (cs:=cs) (ss:=ss) (g:=g);unfold stD hmD;generalize [rD S.res,(S.pg ξ).d,(S.pg θ).d,.int (cI S.c),.e (lts S.fst 1100 0)]=r at ps ⊢;have d1:cmpbs r r=θ:=ps.1;have d2:deeps r<=50:=by have:deeps r+1<=20:=ps.2;lia
 generalize (hmL (aJ cs ss) g).map (·.1)=ks;generalize (hmL (aJ cs ss) g).map (·.2)=vs at fl ⊢
 have O:gEq ξ (.e (.dcT ks vs::r)) (.e (.dcT ks vs::r))=ψ:=by
  unfold gEq;have:cmpbs (.dcT ks vs::r) (.dcT ks vs::r)=ξ:=by simp[cmpbs,bu,aS]
  simp[Bw,this]
 unfold oEqL;dsimp only;unfold orO;rw[O];dsimp only;unfold yD;exact if_pos ⟨rfl,⟨fl,fl,rfl,cc⟩,d1,d2,cc⟩
theorem mx{d:Int}(w:Nm sh cs ss)(Y:FOk N S.fst)(hN:N<1100)(hr:S.res=ψ)(hl:(S.pg S.c).ts.length<1000000)(A:In sh h S lo g b):∃b',F65 [.ref h,.g (pD cs ss rw),I d] b=ς (.g (.bl θ),b')/\In sh h (fld S d) ψ g b':=by have W:S.fst.length<1100:=qk1 Y.len hN;have⟨q,h1⟩:=A.h1;have s1:=iF (rw:=rw) w A W;have⟨S',lo',g',b',⟨rfl,rfl,rfl⟩,f1,U⟩:=A.to (ds:=[.int d]) (ah _) (yV (sh:=sh) (lo:=lo) (g:=g) (d:=d) hr hl);have O:=iF (rw:=rw) (S:=fld S d) w U W;have e:stD cs ss (fld S d) g'=stD cs ss S g':=rfl;rw[e]at O;have Z:=mw (cs:=cs) (ss:=ss) (S:=S) (g:=g') Y;generalize stD cs ss S g'=D at s1 O Z;exact⟨b',xR (.v 0 s1 (.h 0 h1 (.v 0 f1 (.v 0 O (.t 0 Z .nil))))),U⟩
theorem y8{v:Int}(w:Nm sh cs ss)(U:FOk N S.fst)(hN:N<1100)(O:S.res=ς v)(A:In sh h S lo g b):F64 [.ref h,.g (pD cs ss rw)] b=ς (.g (.bl θ),b):=by have hn:S.fst.length<1100:=qk1 U.len hN;have⟨q,h1⟩:=A.h1;have s1:=iF (rw:=rw) w A hn;have Z:=A.pur (ds:=[.int 7]) (ah _) (r6 (sh:=sh) (lo:=lo) (g:=g) (d:=7) O);have f2:=A.pur (ds:=[]) (ah _) (jN (sh:=sh) (lo:=lo) (g:=g) O);have Y:=A.pur (ds:=[]) (ah _) (iB (sh:=sh) (lo:=lo) (g:=g) O);have f4:=A.pur (ds:=[]) (ah _) (mt (sh:=sh) (lo:=lo) (g:=g) O);have W:=mw (cs:=cs) (ss:=ss) (S:=S) (g:=g) U;generalize stD cs ss S g=D at s1 W;exact xR (.v 0 s1 (.h 0 h1 (.v 0 Z (.h 0 h1 (.v 0 f2 (.v 0 s1 (.t 0 W (.h 0 h1 (.v 0 Y (.h 0 h1 (.v 0 f4 .nil)))))))))))
theorem my{n:Nat}{d:Dt}:(qb1 n [d]).flatten=qb1 n d:=by
 induction n with
 |zero=>rfl
 |succ n O=>rw[qg2,ql2,O,qg2];rfl
theorem iG(O:S.res=ψ)(hp:S.plan≠[])(hl:ns.length<=100)(A:In sh h S lo g b):F68 [.ref h,.g (S.pg S.c).d,.g (.e (ns.map .str))] b=ς (.g (.bl θ),b):=by
 have⟨q,h1⟩:=A.h1;have W:=A.pur (ds:=[]) (ah _) (cg (sh:=sh) (lo:=lo) (g:=g) O hp);have Z:=A.pur (ds:=[]) (ah _) (di (sh:=sh) (lo:=lo) (g:=g) O);have U:=A.pur (ds:=[]) (ah _) (yX (sh:=sh) (lo:=lo) (g:=g) O hp);have fb:=λn=>A.pur (ds:=[.str n]) (ah _) (Fu (sh:=sh) (lo:=lo) (g:=g) O hp n)
 have co:eCo .v [ψ,ς 0] (iE (eV 2)) (bnd (.one 0)) tYs (eMe 3 2 F28 (eV 1) (aCn (eV 0) aNl)) [ς (.ref h),ς (.g (S.pg S.c).d),ς (.g (.e (ns.map .str)))] b=ς (.g (.e (ns.map λ_=>.int 0)),b):=dY (δ0:=[ψ,ς (.ref h)]) (ds:=ns.map .str) rfl rfl (by rw[qd1];exact bH (f:=Dt.str) (g:=λ_=>.int 0) λn _=>⟨[ς (.g (.str n)),ς (.ref h)],rfl,rfl,Dx h1 (fb n) rfl rfl⟩) (by rw[qa6,qc1];lia)
 have Y:bLen.g [.e (ns.map .str)]=ς (.f (.int ns.length)):=by simp[bLen,eJ]
 have mu:oMul.g (.e [.int 0]) (.int ns.length)=ς (.e (ns.map λ_=>.int 0)):=by
  have e:(ns.map λ_=>Dt.int 0)=qb1 ns.length (.int 0):=by simp[List.map_const']
  rw[e];simp[oMul,orO,hJ,l8,my,show(ns.length:Int)<=1000 by lia]
 have pl:aw 20 (.e (ns.map λ_=>.int 0))=θ:=fZ (λ_=>rfl) _;exact xR (.h 0 h1 (.v 0 W (.h 0 h1 (.v 0 Z (.h 0 h1 (.v 0 U (.t 0 (ce (d:=.int (S.pg S.c).dn) rfl) (.v 0 co (.t 0 Y (.t 0 mu (.t 0 (iD pl) .nil)))))))))))
end
abbrev uE(h:Nat)(pg nm mm pgs pgd:Dt)(z:Nat)(a7 a8:ζ CV):Sl:=[ς (.ref h),ς (.g pg),ς (.g nm),ς (.g mm),ς (.g pgs),ς (.g pgd),ς (.ref z),a7,a8]
abbrev uB:Fs:=evS (av gc t69) (foN 0 d69.b)
abbrev pgL(S:HS):Dt:=.e [(S.pg ξ).d,(S.pg θ).d,.int (cI S.c)]
abbrev upS(S:HS)(ts:η Tn):HS:={S with plan:=bI ts++[.wake]}
def upG(g:Vf):η Tn->Vf
 |[]=>g
 |t::ts=>upG (fu g t.1.1 t.1.2 t.2) ts
theorem sd{S:HS}:aw 20 (pgL S)=θ:=by show(aw 19 (S.pg ξ).d&&(aw 19 (S.pg θ).d&&(θ&&θ)))=θ;rw[dj (k:=14),dj (k:=14)];rfl
section
variable{x:Fx}{R:Nat}{sh:Sh}{cs ss:η Hd}{N:Nat}{S:HS}{lo:ζ LS}{g:Vf}{h z:Nat}{b:CH}{rw mm:Dt}{ns:η Str}
theorem mz:oNeT.g (hmD cs ss g) (hmD cs ss g)=ς (.f (.bl ξ)):=by have fl:=pV (cs:=cs) (ss:=ss) (g:=g);unfold hmD oNeT;dsimp only;unfold orO;have e:gEq θ (.dcT ((hmL (aJ cs ss) g).map (·.1)) ((hmL (aJ cs ss) g).map (·.2))) (.dcT ((hmL (aJ cs ss) g).map (·.1)) ((hmL (aJ cs ss) g).map (·.2)))=ψ:=rfl;rw[e];dsimp only;exact(if_pos ⟨rfl,fl,fl,rfl⟩).trans (by rw[cc];rfl)
theorem vwT(h:ch[z]?=ς (.dT (dp (hmL (aJ cs ss) g)))):vw ch (.ref z)=ς (hmD cs ss g):=by show(ch[z]?).bind _=_;rw[h];show(dats ((dp (hmL (aJ cs ss) g)).map (·.2))).map (Dt.dcT ((dp (hmL (aJ cs ss) g)).map (·.1)))=_;rw[cC,cB];rfl
theorem oj:(upS S ts).plan≠[]:=Ξ
theorem Ah(A:In sh h S lo g b):F16 [.ref h,I 0] b=ς (.g (S.pg ξ).d,b)/\F16 [.ref h,I 1] b=ς (.g (S.pg θ).d,b)/\F18 [.ref h] b=ς (I (cI S.c),b):=⟨A.pur (ds:=[.int 0]) (ah _) (bT (sh:=sh) (S:=S) (lo:=lo) (g:=g) ξ),A.pur (ds:=[.int 1]) (ah _) (bT (sh:=sh) (S:=S) (lo:=lo) (g:=g) θ),A.pur (ds:=[]) (ah _) (eg (sh:=sh) (S:=S) (lo:=lo) (g:=g))⟩
theorem Fw (w:Nm sh cs ss) (hN:N<400000) (hl:ns.length<=100) (hr:S.res=ψ) (hx:∀ {g},(∀ n p,Vn (g n p))->Ok x R sh N S g):∀ {L rest:η Tn} {g:Vf} {ρ:Nat->Nat} {b:CH} {a7 a8:ζ CV},(∀ t∈L,Vp sh t.1.1 t.1.2/\Vn t.2)->(∀ n p,Vn (g n p))->(L++rest).length<=N->At ρ (hz sh (upS S (L++rest)) ψ g) b->ρ 0=h->(∀ i,i<(hz sh (upS S (L++rest)) ψ g).length->ρ i≠z)->b[z]?=ς (.dT (dp (hmL (aJ cs ss) g)))→
  ∃ ρ' b' U W,bM (bnd (.many [7,8])) uB (L.map Tn.d) (uE h (pD cs ss rw) (.e (ns.map .str)) mm (pgL S) (S.pg S.c).d z a7 a8) b=ς (.nx (uE h (pD cs ss rw) (.e (ns.map .str)) mm (pgL S) (S.pg S.c).d z U W) b')/\At ρ' (hz sh (upS S rest) ψ (upG g L)) b'/\ρ' 0=h/\∀n p,Vn (upG g L n p):=by
 intro L;induction L with
 |nil=>intro rest g ρ b a7 a8 _ hg _ A Y _ _;exact⟨ρ,b,a7,a8,rfl,A,Y,hg⟩
 |cons t L ih=>
  intro rest g ρ b a7 a8 ht hg hlen A Y hz' hd;rwa[qv1,qb8]at hlen;have zb:=ai hd;have I0:In sh h (upS S (t::L++rest)) ψ g b:=⟨ρ,A,Y⟩;have⟨q0,h0⟩:=I0.h1;have nw:=iG (ns:=ns) (S:=upS S (t::L++rest)) hr oj hl I0;have o1:Ok x R sh N (upS S (t::L++rest)) g:=(hx hg).pl;have st:=ld (S:=upS S (t::L++rest)) (sh:=sh) (lo:=ψ) (g:=g) hr oj (yU (t:=t) (ts:=L++rest) w.nd hN o1 rfl Θ (ht t (.head _)).1);have⟨S1,lo1,g1,ρ1,b1,⟨rfl,rfl,rfl⟩,r1,Z⟩:=To.mv (F:=F52) (ds:=[]) (ah _) (To.here (lo':=ψ) (Q:=λS' lo' g'=>S'=upS S (L++rest)/\lo'=ψ/\g'=fu g t.1.1 t.1.2 t.2) st (nL _) ⟨rfl,rfl,rfl⟩) A;have r1':F52 [.ref h] b=ς (.g .non,b1):=by rw[<- Y];exact r1
  have d1:b1[z]?=ς (.dT (dp (hmL (aJ cs ss) g))):=by rw[Z.fr.kp z zb hz'];exact hd
  have ap1:∀i,i<(hz sh (upS S (L++rest)) ψ (fu g t.1.1 t.1.2 t.2)).length->ρ1 i≠z:=λi hi e=>by
   rcases Z.sb i hi with ⟨k,hk,q⟩|q
   .exact hz' k hk (q.symm.trans e)
   .lia
  have pt:eN (.dT (dp (hmL (aJ cs ss) g))) (.t [.str t.1.1,.int t.1.2]) (I t.2)=ς (.dT (dp (hmL (aJ cs ss) (fu g t.1.1 t.1.2 t.2)))):=by have:=vY (g:=g) (v:=t.2) w.pn (w.pm _ _ (ht t (.head _)).1);show(if(dp (hmL (aJ cs ss) g)).length<qa5 then ς (CO.dT (bc (dp (hmL (aJ cs ss) g)) (pK t.1) (I t.2)))else ψ)=_;rw[if_pos (by rw[qc1,k4];have:=w.ln;simp[hmL];lia),iy,this]
  have A2:=Dw (o:=.dT (dp (hmL (aJ cs ss) (fu g t.1.1 t.1.2 t.2)))) Z.at_ ap1;have d2:(b1.set z (.dT (dp (hmL (aJ cs ss) (fu g t.1.1 t.1.2 t.2)))))[z]?=ς (.dT (dp (hmL (aJ cs ss) (fu g t.1.1 t.1.2 t.2)))):=qe0 (ai d1);obtain⟨b2,hb2⟩:∃b2,b2=b1.set z (.dT (dp (hmL (aJ cs ss) (fu g t.1.1 t.1.2 t.2)))):=⟨_,rfl⟩;rw[<- hb2]at A2 d2;have hm:=v7 (rw:=rw) w A2;rw[Z.zero,Y]at hm;obtain⟨b3,O⟩:∃b3,b3=b2++[.dT (dp (hmL (aJ cs ss) (fu g t.1.1 t.1.2 t.2)))]:=⟨_,rfl⟩;have A3:=lh A2 [.dT (dp (hmL (aJ cs ss) (fu g t.1.1 t.1.2 t.2)))];have d3:b3[z]?=ς (.dT (dp (hmL (aJ cs ss) (fu g t.1.1 t.1.2 t.2)))):=by rw[O,gL (ai d2)];exact d2
  have d4:b3[b2.length]?=ς (.dT (dp (hmL (aJ cs ss) (fu g t.1.1 t.1.2 t.2)))):=by rw[O];exact oe
  rw[<- O]at A3 hm;have I2:In sh h (upS S (L++rest)) ψ (fu g t.1.1 t.1.2 t.2) b3:=⟨ρ1,A3,Z.zero.trans Y⟩;have⟨q2,h2⟩:=I2.h1;have⟨p0,p1,pf⟩:=Ah I2;have⟨ρ',b',U,W,i1,i2,i3,i4⟩:=ih (rest:=rest) (a7:=ς (.g (.t [.str t.1.1,.int t.1.2]))) (a8:=ς (I t.2)) (λu hu=>ht u (.tail _ hu)) (Dp hg (ht t (.head _)).2) Θ A3 (Z.zero.trans Y) ap1 d3;refine⟨ρ',b',U,W,qu1 (br (δ':=uE h (pD cs ss rw) (.e (ns.map .str)) mm (pgL S) (S.pg S.c).d z (ς (.g (.t [.str t.1.1,.int t.1.2]))) (ς (I t.2))) (ch1:=b3) rfl ?_) i1,i2,i3,i4⟩;have v3:=vwT d3;have v4:=vwT d4;have q1:=mz (cs:=cs) (ss:=ss) (g:=fu g t.1.1 t.1.2 t.2);have q3:=ce (sd (S:=S));generalize hmD cs ss (fu g t.1.1 t.1.2 t.2)=D at v3 v4 q1;rw[hb2]at hm v4;exact xRs (.v 0 nw (.h 0 h0 (.v 0 r1' (.h 0 d1 (.p 0 pt (.v 0 hm (.d 0 v4 (.d 0 v3 (.t 0 q1 (.h 0 h2 (.v 0 p0 (.h 0 h2 (.v 0 p1 (.h 0 h2 (.v 0 pf (.t 0 q3 .nil))))))))))))))))
theorem v9{α:Type}(f:α->Dt)(l:η α)(m:Nat):gSl (.e (l.map f)) ψ (ς (m:Int))=ς (.e ((l.take m).map f)):=by
 show ς (T.e (((l.map f).drop 0).take (HT.sIx (l.map f).length (l.map f).length (ς (m:Int))-0)))=_;rw[HT.FW,qx4,List.drop_zero,ze7];rcases Nat.le_total m (l.map f).length with h|h
 .rw[qw6 h]
 .rw[Nat.min_eq_right h,List.take_length,zb4 h]
theorem Ai(w:Nm sh cs ss)(hN:N<400000)(hl:ns.length<=100)(o:Ok x R sh N S g){T:η Tn}(hT:∀t∈T,Vp sh t.1.1 t.1.2/\Vn t.2)(Z:T.length<=N)(hp:S.plan=bI T++[.wake])(W:(S.pg S.c).ts=T)(A:In sh h S ψ g b):∃b',F69 [.ref h,.g (pD cs ss rw),.g (.e (ns.map .str)),I m] b=ς (.g (.bl θ),b')/\In sh h (upS S (T.drop m)) ψ (upG g (T.take m)) b'/\∀n p,Vn (upG g (T.take m) n p):=by
 have⟨q0,U⟩:=A.h1;have⟨p0,p1,pf⟩:=Ah A;have hS:S=upS S T:=by unfold upS;rw[<- hp]
 have hx:ixV b (.g (pgL S)) (.int (cI S.c))=ς (.g (S.pg S.c).d):=by cases e:S.c<;>(show _=ς (CV.g _);rfl)
 have⟨ρ,Y,e0⟩:=id A;have ho:=v7 (rw:=rw) w Y;rw[e0]at ho;have O:T.take m++T.drop m=T:=List.take_append_drop m T;have A1:At ρ (hz sh (upS S (T.take m++T.drop m)) ψ g) (b++[.dT (dp (hmL (aJ cs ss) g))]):=by rw[O,<- hS];exact lh Y _
 have lt:∀i,i<(hz sh (upS S (T.take m++T.drop m)) ψ g).length->ρ i≠b.length:=λi hi=>by have:=Y.lt (i:=i) (by rw[O,<- hS]at hi;exact hi);lia
 have⟨ρ',b',a7,a8,i1,i2,i3,i4⟩:=Fw (rw:=rw) (mm:=.int m) (a7:=ψ) (a8:=ψ) w hN hl o.rs (λ{g'} hg=>⟨o.hx,o.ln,o.fp,o.ft,o.du,hg,o.rs⟩) (L:=T.take m) (rest:=T.drop m) (g:=g) (λt ht=>hT t (qv4 ht)) o.gn (by rw[O];exact Z) A1 e0 lt oe;have I':In sh h (upS S (T.drop m)) ψ (upG g (T.take m)) b':=⟨ρ',i2,i3⟩;have nw:=iG (ns:=ns) (S:=upS S (T.drop m)) o.rs oj hl I'
 have sl:eSl .v (eIx (eV 5) (eK (.int 5))) ψ (ς (eV 3)) (uE h (pD cs ss rw) (.e (ns.map .str)) (.int m) (pgL S) (S.pg S.c).d b.length ψ ψ) (b++[.dT (dp (hmL (aJ cs ss) g))])=ς (.g (.e ((T.take m).map Tn.d)),b++[.dT (dp (hmL (aJ cs ss) g))]):=by
  have h5:eIx (eV 5) (eK (.int 5)) (uE h (pD cs ss rw) (.e (ns.map .str)) (.int m) (pgL S) (S.pg S.c).d b.length ψ ψ) (b++[.dT (dp (hmL (aJ cs ss) g))])=ς (.g (.e (T.map Tn.d)),b++[.dT (dp (hmL (aJ cs ss) g))]):=by rw[<- W];rfl
  have:=v9 Tn.d T m;unfold eSl;rw[h5];rwa[fOp,eV,qd2,qf3,lent,bR,vw,this,fin,L2.T.d,qa0,qa9]
 have j1:=aH (fi:=iE (eSl .v (eIx (eV 5) (eK (.int 5))) ψ (ς (eV 3)))) (pt:=.many [7,8]) (g:=uB) (ds:=(T.take m).map Tn.d) (by unfold iE;rw[sl];rfl) i1;exact⟨b',xR (.h 0 U (.v 0 p0 (.h 0 U (.v 0 p1 (.h 0 U (.v 0 pf (.h 0 U (.v 0 pf (.c 0 hx (.v 0 ho (.o 0 j1 (.v 0 nw .nil)))))))))))),I',i4⟩
end
variable{xs:η Str}
section
variable{ch:CH}
theorem f8{n:Nat}:(ay 0 n).length=n:=by simp[ay]
theorem aR{n:Nat}(h:n<1100):cU (n:Int)=θ:=by unfold cU;simp;lia
theorem fj{α:Type}{f:α->Dt}{l:η α}{k:Nat}(h:k<l.length):ixD (.e (l.map f)) (.int k)=ς (f l[k]):=(gJ (by rw[qa8,gQ h];rfl)).1
theorem dB(ns:η Int)(k:Nat):∃v:Int,F1 [.g (.e (ns.map .int)),I k] ch=ς (I v,ch):=by
 have hl:bLen.g [.e (ns.map .int)]=ς (.f (.int ns.length)):=by simp[bLen,eJ]
 by_cases h:k<ns.length
 .have O:ixV ch (.g (.e (ns.map .int))) (.int k)=ς (I ns[k]):=by show(ixD _ _).map CV.g=_;rw[fj (f:=Dt.int) h];rfl
  exact⟨ns[k],xR (.t 0 hl (.t 0 (ltI (decide_eq_true (show(k:Int)<(ns.length:Int)by lia))) (.c 0 O .nil)))⟩
 .exact⟨0,xR (.t 0 hl (.t 0 (ltI (decide_eq_false (show ¬ (k:Int)<(ns.length:Int)by lia))) .nil))⟩
def Sm'(v:Int):Prop:=0<=v/\v<2147483629
theorem jO{c m:CV}:∀{ds l:η Int}{n:Int}{a4:ζ CV},(∀d∈ds,0<=d)->0<=n->n<2147553251->(∀v∈l,Sm' v)->l.length+ds.length<=1000->∃(W:η Int)(n':Int)(U:ζ CV),bM (bnd (.one 4)) (aZ (iS 3 (e2 .v oMod.g (e2 .v oAdd.g (e2 .v oAdd.g (e2 .v oMul.g (eV 3) (eV 3)) (e2 .v oMul.g (eK (.int 16807)) (eV 3))) (eV 4)) (eK (.int 2147483629)))) (aZ (sAs 2 (eV 3)) gr)) (ds.map .int) [ς c,ς m,ς (.own θ (.e (l.map .int))),ς (I n),a4] ch=ς (.nx [ς c,ς m,ς (.own θ (.e (W.map .int))),ς (I n'),U] ch)/\W.length=l.length+ds.length/\∀v∈W,Sm' v
 |[],l,n,a4,_,_,_,hl,_=>⟨l,n,a4,rfl,rfl,hl⟩
 |d::ds,l,n,a4,hd,h0,h1,hl,hz=>by
  rwa[qb8]at hz;have m1:cF n n=θ:=eF Θ Θ;have m2:cF 16807 n=θ:=eF Θ Θ;have b0:=qg5 (n*n+16807*n+d) (show(2147483629:Int)≠0 by decide);have b1:=qf9 (n*n+16807*n+d) (show(0:Int)<2147483629 by decide);obtain⟨v,hv⟩:∃v,v=(n*n+16807*n+d)%2147483629:=⟨_,rfl⟩;rw[<- hv]at b0 b1;have⟨W,n',U,e1,Y,e3⟩:=jO (c:=c) (m:=m) (ds:=ds) (l:=l++[v]) (n:=v) (a4:=ς (I d)) (λx O=>hd x (.tail _ O)) b0 Θ (λx O=>by rcases qh1.mp O with O|O;exact hl x O;simp at O;subst O;exact⟨b0,b1⟩) (by simp;lia);refine⟨W,n',U,?_,by rw[Y];simp;lia,e3⟩;have Z:l.length<16777216:=by lia
  refine qu1 (br (δ':=[ς c,ς m,ς (.own θ (.e (l.map .int))),ς (I n),ς (I d)]) (δ2:=[ς c,ς m,ς (.own θ (.e ((l++[v]).map .int))),ς (I v),ς (I d)]) (ch1:=ch) rfl ?_) e1;simp! only[sAs];simp! [oMul,hJ,m1,m2,oMod,eI,<- hv,cG,ownA,Z]
theorem Fy{l:η Int}:gSl (.e (l.map .int)) (ς 1) ψ=ς (.e ((l.drop 1).map .int)):=by
 show ς (T.e (ki (l.map .int) (ς 1) ψ))=_;unfold ki;cases l with
 |nil=>rfl
 |cons a l=>
  have h1:HT.sIx ((a::l).map Dt.int).length 0 (ς 1)=1:=by simp[HT.sIx]
  have h2:HT.sIx ((a::l).map Dt.int).length ((a::l).map Dt.int).length ψ=(a::l).length:=by simp[HT.sIx]
  rw[h1,h2];simp;rw[zb4 Ξ]
theorem ci(c:Int)(m:Nat)(hm:m<=100):∃vs:η Int,F2 [I c,I m] ch=ς (.g (.e (vs.map .int)),ch)/\vs.length=m/\∀v∈vs,Sm' v:=by
 have b0:=qg5 c (show(2147483629:Int)≠0 by decide);have b1:=qf9 c (show(0:Int)<2147483629 by decide);have Z:ay 0 (m+1)=((qc8 (m+1)).map λi:Nat=>(i:Int)).map .int:=by unfold ay;rw[qd1];apply qg3;intro i _;simp
 have⟨l,n,a4,U,O,Y⟩:=jO (ch:=ch) (c:=I c) (m:=I m) (ds:=(qc8 (m+1)).map λi:Nat=>(i:Int)) (l:=[]) (n:=c%2147483629+69621) (a4:=ψ) Ξ Θ Θ Ξ (by simp;lia);rw[<- Z]at U;refine⟨l.drop 1,?_,by rw[za4,O];simp,λv W=>Y v (List.mem_of_mem_drop W)⟩;rw[q2];refine fX (aF (δ':=[ς (I c),ς (I m),ς (.own θ (.e [])),ψ,ψ]) (ch1:=ch) rfl (aF (δ':=[ς (I c),ς (I m),ς (.own θ (.e [])),ς (I (c%2147483629+69621)),ψ]) (ch1:=ch) ?_ (aF (aH (ds:=ay 0 (m+1)) (eT (j:=m+1) ?_ (aR Θ)) U) (jI (jH (c:=.g (.e ((l.drop 1).map .int))) (ch1:=ch) ?_ rfl)))))
 .simp! only[];simp! [oMod,eI]
 .simp! only[];simp! []
 .have:=Fy (l:=l);rwa[eSl,fOp,eV,eK,lent,qa0,qd2,qf3,bR,qa9,vw,T.d,this,fin]
theorem dm(n:Int):∃v,Vi (.int v)/\F3 [I n] ch=ς (I v,ch):=by
 have O:oPow.g (.int 2) (.int 40)=ς (.f (.int 1099511627776)):=by simp[oPow,xt,oN]
 have Y:oMul.g (.int (n/3)) (.int 1664525)=ς (.f (.int (n/3*1664525))):=by simp[oMul,orO,hJ,kg (i:=n/3) (j:=1664525) Θ Θ]
 by_cases W:n%3=0
 .exact⟨n/3%4,⟨_,rfl,Θ,Θ⟩,xR (.t 1 (eqI (decide_eq_true W)) .nil)⟩
 .have U:=eqI (decide_eq_false W);by_cases h1:n%3=1
  .exact⟨1099511627776-1-n/3%4,⟨_,rfl,Θ,Θ⟩,xR (.t 1 U (.t 1 (eqI (decide_eq_true h1)) (.t 0 O .nil)))⟩
  .exact⟨n/3*1664525%1099511627776,⟨_,rfl,Θ,Θ⟩,xR (.t 1 U (.t 1 (eqI (decide_eq_false h1)) (.t 1 Y (.t 0 O .nil))))⟩
theorem lj(n:Int)(hx:xs≠[]):∃a,cZ a/\F5 [I n,.g (.e (xs.map .str))] ch=ς (.g (aB a),ch):=by
 by_cases W:n%3=0
 .have⟨v,Y,h1⟩:=dm (ch:=ch) (n/3);exact⟨.inl v,.inl Y,xR (.t 1 (eqI (decide_eq_true W)) (.v 0 h1 .nil))⟩
 .have hp:(0:Int)<xs.length:=by have:=List.length_pos_iff.mpr hx;lia
  have Z:=qg5 (n/3) (show(xs.length:Int)≠0 by lia);have b1:=qf9 (n/3) hp;have⟨k,hk⟩:=qf4 Z;have U:k<xs.length:=by lia
  have hl:bLen.g [.e (xs.map .str)]=ς (.f (.int xs.length)):=by simp[bLen,eJ]
  have O:ixV ch (.g (.e (xs.map .str))) (.int (n/3%(xs.length:Int)))=ς (.g (.str xs[k])):=by show(ixD _ _).map CV.g=_;rw[hk,fj (f:=Dt.str) U];rfl
  exact⟨.inr xs[k],.inr ⟨_,rfl⟩,xR (.t 1 (eqI (decide_eq_false W)) (.t 1 hl (.t 0 (mdI (v:=n/3) rfl hp) (.c 0 O .nil))))⟩
end
section
variable{x:Fx}{R:Nat}{sh:Sh}{cs ss:η Hd}{N:Nat}{S:HS}{lo:ζ LS}{g:Vf}{h:Nat}{b:CH}{rw:Dt}{ns:η Str}
abbrev fm(S:HS):LS:=⟨(S.pg S.c).r,(S.pg S.c).dn,(S.pg S.c).he,(S.pg S.c).sy,S.dust,bxK (S.pg S.c).bs,[]⟩
theorem om{l:η (Key×Dt)}:l5 .v (dp l) ch=ς (.g (.dct (l.map (·.1)) (l.map (·.2))),ch):=by unfold l5;rw[cC];dsimp only;rw[nN];rfl
theorem ll(o:Ok x R sh N S g):Sd x R sh N {S with plan:=[]} (fm S) g:=by refine⟨o.pl,rfl,⟨o.fp.he,o.du,λp hp=>?_,by have:=(o.ln S.c).1;simpa[bxK] using this,Ξ,Ξ⟩,_,rfl,o.fp.r⟩;rwa[bxK,qb9]at hp;have⟨t,O,rfl⟩:=hp;exact(o.fp.vi t O).i
abbrev cE'(h:Nat)(pg nm:Dt)(d:Int)(pd hm bx:Dt)(a7:ζ CV):Sl:=[ς (.ref h),ς (.g pg),ς (.g nm),ς (I d),ς (.g pd),ς (.g hm),ς (.g bx),a7]
abbrev cB':Fs:=evS (av gc t70) (foN 0 d70.b)
theorem pW{l:LS}(hb:∀n,F28 [.ref h,.g (.str n)] b=ς (I (bv l.bx l.du n),b)){q:η CV}(h1:b[h]?=ς (.ins 3 q))(U:∀p∈l.bx,Vi p.2){pg nm pd hm:Dt}:∀{ns:η Str}{a7:ζ CV},∃O,bM (bnd (.one 7)) cB' (ns.map .str) (cE' h pg nm l.du pd hm (.dct (l.bx.map (·.1)) (l.bx.map (·.2))) a7) b=ς (.nx (cE' h pg nm l.du pd hm (.dct (l.bx.map (·.1)) (l.bx.map (·.2))) O) b)
 |[],a7=>⟨a7,rfl⟩
 |n::ns,a7=>by
  have⟨O,i⟩:=pW hb h1 U (pg:=pg) (nm:=nm) (pd:=pd) (hm:=hm) (ns:=ns) (a7:=ς (.g (.str n)))
  have gt:getV b (.g (.dct (l.bx.map (·.1)) (l.bx.map (·.2)))) (.str n) (I l.du)=ς (I (bv l.bx l.du n)):=by have:=(vD (z:=l.du) λd e=>U _ (aQ (k:=qn1 n) e)).1;show ς (((am (l.bx.map (·.1)) (l.bx.map (·.2)) (qn1 n)).map CV.g).getD (I l.du))=_;rw[this];rfl
  exact⟨O,qu1 (br (δ':=cE' h pg nm l.du pd hm (.dct (l.bx.map (·.1)) (l.bx.map (·.2))) (ς (.g (.str n)))) rfl (xRs (.h 0 h1 (.v 0 (hb n) (.c 0 gt (.t 0 (ce (d:=.int (bv l.bx l.du n)) rfl) .nil)))))) i⟩
theorem y9(w:Nm sh cs ss)(o:Ok x R sh N S g)(hp:S.plan=[.wake])(A:In sh h S ψ g b):∃b',F70 [.ref h,.g (pD cs ss rw),.g (.e (ns.map .str)),I S.dust] b=ς (.g (.bl θ),b')/\In sh h {S with plan:=[]} (ς (fm S)) g b':=by
 have U:S.plan≠[]:=by rw[hp];simp
 have L:=ll o;have⟨q0,Z⟩:=A.h1;have pf:=A.pur (ds:=[]) (ah _) (eg (sh:=sh) (S:=S) (lo:=ψ) (g:=g));have pg:=A.pur (ds:=[.int (cI S.c)]) (ah _) (bT (sh:=sh) (S:=S) (lo:=ψ) (g:=g) S.c);have⟨ρ,A',e0⟩:=id A;have hm:=oh (rw:=rw) w A';rw[e0]at hm;have⟨S1,lo1,g1,b1,⟨rfl,rfl,rfl⟩,st,A1⟩:=A.to (ds:=[]) (ah _) ((pO o hp).run λch' e=>ld (sh:=sh) (lo:=ψ) (g:=g) o.rs U e);have⟨q1,h1⟩:=A1.h1;have s1:=A1.pur (ds:=[]) (ah _) (cf (sh:=sh) (S:={S with plan:=[]}) (l:=fm S) (g:=g1) o.rs rfl);have c1:=A1.pur (ds:=[]) (ah _) (yW (sh:=sh) (S:={S with plan:=[]}) (l:=fm S) (g:=g1) o.rs rfl);have pf1:=A1.pur (ds:=[]) (ah _) (eg (sh:=sh) (S:={S with plan:=[]}) (lo:=ς (fm S)) (g:=g1));have pg1:=A1.pur (ds:=[.int (cI S.c)]) (ah _) (bT (sh:=sh) (S:={S with plan:=[]}) (lo:=ς (fm S)) (g:=g1) S.c);have Y:=A1.pur (ds:=[]) (ah _) (di (sh:=sh) (S:={S with plan:=[]}) (lo:=ς (fm S)) (g:=g1) o.rs);have bx1:=λn=>A1.pur (ds:=[.str n]) (ah _) (Ac (sh:=sh) (S:={S with plan:=[]}) (l:=fm S) (g:=g1) o.rs rfl L.lk n)
 have⟨ρ1,W,e1⟩:=id A1;have O:=oh (rw:=rw) w W;rw[e1]at O;have hk:((dp (bxK (S.pg S.c).bs)).map (·.1)).Nodup:=by rw[cB];exact k7 o.fp.nd
 have nT:=mz (cs:=cs) (ss:=ss) (g:=g1);generalize hmD cs ss g1=D at hm O nT
 have dc:eDc .v (eIx (eV 4) (eK (.int 4))) [ς (.ref h),ς (.g (pD cs ss rw)),ς (.g (.e (ns.map .str))),ς (I S.dust),ς (.g (S.pg S.c).d),ς (.g D),ψ,ψ] b1=ς (.g (.dct ((bxK (S.pg S.c).bs).map (·.1)) ((bxK (S.pg S.c).bs).map (·.2))),b1):=by show(aT _ (((S.pg S.c).bs.map Bx.d).map .g)).bind _=_;rw[qd1,eY,qa0,if_pos hk,om]
 have⟨a7,i1⟩:=pW (l:=fm S) bx1 h1 L.lk.bx (pg:=pD cs ss rw) (nm:=.e (ns.map .str)) (pd:=(S.pg S.c).d) (hm:=D) (ns:=ns) (a7:=ψ);have j1:=aH (fi:=iE (eV 2)) (pt:=.one 7) (g:=cB') (ds:=ns.map .str) rfl i1;exact⟨b1,xR (.h 0 Z (.h 0 Z (.v 0 pf (.v 0 pg (.v 0 hm (.h 0 Z (.v 0 st (.h 0 h1 (.v 0 s1 (.t 0 (ce (d:=.int ((S.pg S.c).r:Int)) rfl) (.h 0 h1 (.v 0 c1 (.t 0 (ce (d:=.int (S.pg S.c).dn) rfl) (.v 0 O (.t 0 nT (.v 0 dc (.o 0 j1 (.h 0 h1 (.h 0 h1 (.v 0 pf1 (.v 0 pg1 (.t 0 (iD (dj (k:=15) (S.pg S.c))) (.h 0 h1 (.v 0 Y .nil)))))))))))))))))))))))),A1⟩
theorem wb{d:Int}(O:Vn d)(o:Ok x R sh N S g):Ok x R sh N (fld S d) g:=⟨o.hx,o.ln,o.fp,o.ft,O,o.gn,o.rs⟩
theorem se(c:Int)(w:Nm sh cs ss)(hN:N<1100)(hl:ns.length<=100)(o:Ok x R sh N S g)(A:In sh h S lo g b):∃S' g' b',F71 [.ref h,.g (pD cs ss rw),.g (.e (ns.map .str)),I c] b=ς (.g (.bl θ),b')/\In sh h S' (ς (fm S')) g' b'/\Sd x R sh N S' (fm S') g':=by
 have str:=λch=>ci (ch:=ch) c 5 Θ
 have⟨vs,s1,s2,_⟩:=str b
 obtain⟨v0,v1,v2,v3,v4,rfl⟩:∃v0 v1 v2 v3 v4,vs=[v0,v1,v2,v3,v4]:=by
  match vs,s2 with
  |[a,b,c,d,e],_=>exact⟨a,b,c,d,e,rfl⟩
 have s1':F2 [I c,I 5] b=ς (.g (.e [.int v0,.int v1,.int v2,.int v3,.int v4]),b):=s1;have hts:(S.pg S.c).ts.length<1000000:=by have:=(o.ln S.c).2;lia
 have⟨d1,hd1,e1⟩:=dm (ch:=b) v1;have⟨b1,f1,A1⟩:=mx (rw:=rw) (d:=d1) w o.ft hN o.rs hts A;have W:=wb hd1.n o
 -- the U part,from a house that has just failed
 have U:∀{T:HS}{g':Vf}{b2:CH},Ok x R sh N T g'->T.plan=bI (T.pg T.c).ts++[.wake]->In sh h T ψ g' b2->∃g'' Z Y,F18 [.ref h] b2=ς (I (cI T.c),b2)/\F16 [.ref h,I (cI T.c)] b2=ς (.g (T.pg T.c).d,b2)/\(∃q,b2[h]?=ς (.ins 3 q))/\F69 [.ref h,.g (pD cs ss rw),.g (.e (ns.map .str)),I ((T.pg T.c).ts.length:Nat)] b2=ς (.g (.bl θ),Z)/\F70 [.ref h,.g (pD cs ss rw),.g (.e (ns.map .str)),I T.dust] Z=ς (.g (.bl θ),Y)/\In sh h {T with plan:=[]} (ς (fm T)) g'' Y/\Sd x R sh N {T with plan:=[]} (fm T) g'':=λ{T g' b2} O hp A2=>by
  have⟨Z,u1,A3,G3⟩:=Ai (rw:=rw) (ns:=ns) (m:=(T.pg T.c).ts.length) w Θ hl O O.fp.ts (O.ln T.c).2 hp rfl A2;have e:upS T ((T.pg T.c).ts.drop (T.pg T.c).ts.length)={T with plan:=[.wake]}:=by rw[qq8];rfl
  rw[e]at A3;have o3:Ok x R sh N {T with plan:=[.wake]} (upG g' ((T.pg T.c).ts.take (T.pg T.c).ts.length)):=⟨O.hx,O.ln,O.fp,O.ft,O.du,G3,O.rs⟩;have⟨Y,u2,A4⟩:=y9 (rw:=rw) (ns:=ns) w o3 rfl A3;exact⟨_,Z,Y,A2.pur (ds:=[]) (ah _) eg,A2.pur (ds:=[.int (cI T.c)]) (ah _) (bT T.c),A2.h1,u1,u2,A4,ll (S:={T with plan:=[.wake]}) o3⟩
 have md:oMod.g (.int v2) (.int 2)=ς (.f (.int (v2%2))):=rfl;cases z:decide (v2%2=0)with
 |false=>
  have⟨g',Z,Y,c1,c2,⟨q2,h2⟩,c3,c4,c5,c6⟩:=U W rfl A1;have ln:bLen.g [.e ((fld S d1).pg (fld S d1).c).t]=ς (.f (.int ((fld S d1).pg (fld S d1).c).ts.length)):=by simp[bLen,eJ]
  exact⟨{fld S d1 with plan:=[]},g',Y,xR (.v 0 s1' (.v 0 e1 (.v 0 f1 (.t 1 (eqI z) (.h 0 h2 (.h 0 h2 (.v 0 c1 (.v 0 c2 (.t 0 ln (.v 0 c3 (.v 0 c4 .nil))))))))))),c5,c6⟩
 |true=>
  have m4:∃k:Nat,v3%4=k:=qf4 (qg5 v3 Ω);have⟨k,hk⟩:=m4;have⟨b2,u1,A2,G2⟩:=Ai (rw:=rw) (ns:=ns) (m:=k) w Θ hl W W.fp.ts (W.ln _).2 rfl rfl A1;have m4:oMod.g (.int v3) (.int 4)=ς (.f (.int k)):=by rw[<- hk];rfl
  have⟨d2,hd2,e2'⟩:=dm (ch:=b2) v4;have O:Ok x R sh N (upS (fld S d1) (((fld S d1).pg (fld S d1).c).ts.drop k)) (upG g (((fld S d1).pg (fld S d1).c).ts.take k)):=⟨W.hx,W.ln,W.fp,W.ft,W.du,G2,W.rs⟩;have⟨Z,f2,A3⟩:=mx (rw:=rw) (d:=d2) w O.ft hN O.rs hts A2;have o3:=wb hd2.n O;have⟨g',Y,b5,c1,c2,⟨q2,h2⟩,c3,c4,c5,c6⟩:=U o3 rfl A3;have ln:bLen.g [.e (S.pg S.c).t]=ς (.f (.int (S.pg S.c).ts.length)):=by simp[bLen,eJ]
  exact⟨{fld (upS (fld S d1) ((S.pg S.c).ts.drop k)) d2 with plan:=[]},g',b5,xR (.v 0 s1' (.v 0 e1 (.v 0 f1 (.t 1 (eqI z) (.t 0 m4 (.v 0 u1 (.v 0 e2' (.v 0 f2 (.h 0 h2 (.h 0 h2 (.v 0 c1 (.v 0 c2 (.t 0 ln (.v 0 c3 (.v 0 c4 .nil))))))))))))))),c5,c6⟩
end
def Sim(g:Fs)(δ:Sl)(A B:CH):Prop:=∃O σ,g δ A=ς (.nx δ O)/\A.length<=O.length/\At σ B O/\σ 0=0
noncomputable def cl0:Sl->Bool
 |[]=>θ
 |none::l=>cl0 l
 |some (.ref i)::l=>(i==0)&&cl0 l
 |some (.own _ _)::_=>ξ
 |some (.fn _ _)::_=>ξ
 |some (.g _)::l=>cl0 l
theorem iH(O:ρ 0=0):∀{δ:Sl},cl0 δ=θ->rnS ρ δ=δ
 |[],_=>rfl
 |none::l,h=>by rwa[rnS,qa3,Option.map_none];rw[show zg2 (zd2 (rn ρ)) l=l from iH O h]
 |some (.ref i)::l,h=>by rwa[cl0,qa1,beq_iff_eq]at h;have⟨rfl,h⟩:=h;rwa[rnS,qa3,qa9,rn,O];rw[show zg2 (zd2 (rn ρ)) l=l from iH O h]
 |some (.g d)::l,h=>by rwa[rnS,qa3,qa9,rn];rw[show zg2 (zd2 (rn ρ)) l=l from iH O h]
 |some (.own _ _)::_,h=>by cases h
 |some (.fn _ _)::_,h=>by cases h
variable{σ:Nat->Nat}
section
variable{g g1 g2:Fs}{δ:Sl}{A B C:CH}
theorem Sim.of{B':CH}(h:g δ A=ς (.nx δ B'))(hl:A.length<=B'.length)(k:At σ B B')(O:σ 0=0):Sim g δ A B:=⟨B',σ,h,hl,k,O⟩
theorem Sim.seq(hT:TrS g2)(W:Cl B)(Z:0<B.length)(hδ:cl0 δ=θ)(h1:Sim g1 δ A B)(h2:Sim g2 δ B C):Sim (aZ g1 g2) δ A C:=by
 have⟨O,σ,a1,a2,Y,a4⟩:=h1;have⟨C',τ,c1,c2,c3,c4⟩:=h2;have⟨D,d1,d2,d3⟩:=hT (Y.em W) c1;have U:hat σ B.length O.length 0=0:=by unfold hat;rw[if_pos Z];exact a4
 rw[iH U hδ]at d1;have d1:g2 δ O=ς (.nx (rnS (hat σ B.length O.length) δ) D):=d1;rw[iH U hδ]at d1;refine⟨D,_,aF a1 d1,qd7 a2 (Em.fr Y W d2 d3 c2).le,At.comp d2 c3,?_⟩;show hat σ B.length O.length (τ 0)=0;rw[c4];exact U
end
noncomputable def blk:Nat->η (Str×η Dt)->CH
 |_,[]=>[]
 |n,p::r=>.e (p.2.map .g)::.t [.g (.str p.1),.ref n]::blk (n+2) r
noncomputable def prs:Nat->η (Str×η Dt)->η (Key×CV)
 |_,[]=>[]
 |n,p::r=>(.inr p.1,.ref n)::prs (n+2) r
noncomputable def rfs:Nat->Nat->η CV
 |_,0=>[]
 |n,k+1=>.ref n::rfs (n+2) k
section
variable{fe:Fg}{α:Type}{f:α->Dt}{nm:α->Str}{vl:α->η Dt}
theorem mB:∀(l:η α)(O:∀a∈l,∀ch,fe [ς (.g (f a))] ch=ς (.ref (ch.length+1),ch++[.e ((vl a).map .g),.t [.g (.str (nm a)),.ref ch.length]])) (ch:CH),aE (bnd (.one 0)) tYs fe [ψ] (l.map f) ch=ς (rfs (ch.length+1) l.length,ch++blk ch.length (l.map λa=>(nm a,vl a)))
 |[],_,ch=>by simp[aE,rfs,blk]
 |a::l,O,ch=>by have U:=mB l (λb hb=>O b (.tail _ hb)) (ch++[.e ((vl a).map .g),.t [.g (.str (nm a)),.ref ch.length]]);have hb:bnd (.one 0) (f a) [ψ]=ς [ς (.g (f a))]:=rfl;rwa[qa3,aE,hb,qa0,tYs,if_true,O a (.head _),CV.sol,U,qa9];simp[rfs,blk]
theorem bw:∀{ps:η (Str×η Dt)}{n:Nat},(blk n ps).length=2*ps.length
 |[],_=>rfl
 |p::r,n=>by simp[blk,bw (ps:=r)];lia
theorem lm:∀{ps:η (Str×η Dt)}{n k:Nat}{p:Str×η Dt},ps[k]?=ς p->(blk n ps)[2*k]?=ς (.e (p.2.map .g))/\(blk n ps)[2*k+1]?=ς (.t [.g (.str p.1),.ref (n+2*k)])
 |[],_,_,_,h=>by simp at h
 |q::r,n,0,p,h=>by cases h;exact⟨rfl,rfl⟩
 |q::r,n,k+1,p,h=>by have:=lm (n:=n+2) (k:=k) (ps:=r) (p:=p) ‹h›;rw[show n+2+2*k=n+2*(k+1)by lia]at this;exact this
theorem jP{H:CH}:∀{ps:η (Str×η Dt)}{n:Nat},(∀k p,ps[k]?=ς p->H[n+2*k+1]?=ς (.t [.g (.str p.1),.ref (n+2*k)]))->aT H (rfs (n+1) ps.length)=ς (prs n ps)
 |[],_,_=>rfl
 |p::r,n,h=>by
  have O:=h 0 p rfl
  have U:=jP (ps:=r) (n:=n+2) λk q W=>by have:=h (k+1) q ‹W›;rw[show n+2*(k+1)=n+2+2*k by lia]at this;exact this
  rwa[qb8,rfs,aT,bY];rw[show n+1+2=n+2+1 by lia,U];rwa[Nat.mul_zero,zf7]at O;simp[O,cJ,prs]
theorem lp:∀{ps:η (Str×η Dt)}{n:Nat},(prs n ps).map (·.1)=ps.map λp=>.inr p.1
 |[],_=>rfl
 |p::r,n=>by simp[prs,lp (ps:=r)]
theorem pX:∀{ps:η (Str×η Dt)}{n:Nat},(prs n ps).length=ps.length
 |[],_=>rfl
 |p::r,n=>by simp[prs,pX (ps:=r)]
theorem pY:∀{ps:η (Str×η Dt)}{n:Nat},((prs n ps).map (·.2)).all CV.sol=θ
 |[],_=>rfl
 |p::r,n=>by rwa[prs,qa3,qd4,CV.sol,qz8];exact pY
theorem pZ:∀{k n:Nat},(rfs n k).all CV.sol=θ
 |0,_=>rfl
 |k+1,n=>by rwa[rfs,qd4,CV.sol,qz8];exact pZ
theorem p7:∀{k n:Nat},(rfs n k).length=k
 |0,_=>rfl
 |k+1,n=>by simp[rfs,p7 (k:=k)]
theorem mC{l:η α}(U:∀a∈l,∀ch,fe [ς (.g (f a))] ch=ς (.ref (ch.length+1),ch++[.e ((vl a).map .g),.t [.g (.str (nm a)),.ref ch.length]]))(hi:fi δ ch=ς (l.map f,ch))(hg:gC src δ=[ψ])(hl:l≠[])(hz:l.length<=qa5)(hn:(l.map nm).Nodup):eDc .o (eCo .v src fi (bnd (.one 0)) tYs fe) δ ch=ς (.ref (ch.length+2*l.length+1),ch++blk ch.length (l.map λa=>(nm a,vl a))++[.e (rfs (ch.length+1) l.length)]++[.dK (prs ch.length (l.map λa=>(nm a,vl a)))]):=by
 obtain⟨a,l',rfl⟩:∃a l',l=a::l':=by cases l with|nil=>exact absurd rfl hl|cons a l'=>exact⟨a,l',rfl⟩
 generalize hL:a::l'=l at*
 have O:eCo .v src fi (bnd (.one 0)) tYs fe δ ch=ς (.ref (ch.length+2*l.length),ch++blk ch.length (l.map λa=>(nm a,vl a))++[.e (rfs (ch.length+1) l.length)]):=by
  unfold eCo;rw[hi,qa0,hg];dsimp only;rw[mB _ U,qa0];dsimp only;rw[if_pos (by rw[p7];exact hz)];unfold finL;have hd:dats (rfs (ch.length+1) l.length)=ψ:=by rw[<- hL];rfl
  rw[hd];dsimp only;rw[if_pos pZ];simp[bw]
 generalize Z:ch++blk ch.length (l.map λa=>(nm a,vl a))++[.e (rfs (ch.length+1) l.length)]=H at O ⊢;have Y:H.length=ch.length+2*l.length+1:=by rw[<- Z];simp[bw];lia
 have hp:aT H (rfs (ch.length+1) l.length)=ς (prs ch.length (l.map λa=>(nm a,vl a))):=by
  have:=jP (H:=H) (ps:=l.map λa=>(nm a,vl a)) (n:=ch.length) λk p hk=>by have hb:=(lm (n:=ch.length) hk).2;rw[<- Z,qd8,gR Θ,show ch.length+2*k+1-ch.length=2*k+1 by lia,gL (ai hb)];exact hb
  rw[qa6]at this;exact this
 have hs:l4 H (.ref (ch.length+2*l.length))=ς (rfs (ch.length+1) l.length):=by
  have:H[ch.length+2*l.length]?=ς (.e (rfs (ch.length+1) l.length)):=by rw[<- Z,qf0 (by simp[bw])];simp[bw]
  rwa[l4,this]
 unfold eDc;rw[O,qa0];dsimp only;rw[hs,qa0,hp,qa0]
 have W:((prs ch.length (l.map λa=>(nm a,vl a))).map (·.1)).Nodup:=by
  rw[lp,qd1];have e:(l.map ((λp:Str×η Dt=>(qn1 p.1:Key)) ∘ λa=>(nm a,vl a)))=(l.map nm).map qn1:=by simp
  rw[e];exact qh9 _ (λa b h q=>h (qv9 q)) hn
 rw[if_pos W];unfold l5;have hd2:dats ((prs ch.length (l.map λa=>(nm a,vl a))).map (·.2))=ψ:=by rw[<- hL];rfl
 rw[hd2];dsimp only;rw[if_pos pY,Y]
end
def tlC(cs:η Hd):CH:=cs.map λh=>dl [.int h.2.1]
def tlS(ss:η Hd):CH:=ss.map λh=>dl (qb1 h.2.1.toNat (.int 0))
theorem iI{σ:Nat->Nat}{vl:Hd->η Dt}{sz:Hd->Nat}:∀{hs:η Hd}{n o:Nat},(∀k,k<hs.length->σ (k+o)=n+2*k)->rnP σ (ae o (hs.map λh=>(h.1,sz h)))=prs n (hs.map λh=>(h.1,vl h))
 |[],_,_,_=>rfl
 |h::hs,n,o,W=>by
  have U:=W 0 Ξ;have O:=iI (σ:=σ) (vl:=vl) (sz:=sz) (hs:=hs) (n:=n+2) (o:=o+1) λk hl=>by have:=W (k+1) ‹hl›;rw[show k+(o+1)=k+1+o by lia,this];lia
  rwa[zf9,Nat.mul_zero,zf7]at U;rwa[rnP,qa3,ae,prs,rn,U]at O ⊢;rw[O]
theorem jQ:∀{a b:Sh}{o:Nat},ae o (a++b)=ae o a++ae (o+a.length) b
 |[],b,o=>by simp[ae]
 |p::a,b,o=>by have:=jQ (a:=a) (b:=b) (o:=o+1);rwa[qv1,ae,this,qb8];rw[show o+1+a.length=o+(a.length+1)by lia]
section
variable{cs ss:η Hd}{R:η Rw}{bg:η Str}
abbrev pgm(cs ss:η Hd)(R:η Rw):Dt:=.t [.t (cs.map Hd.d),.t (ss.map Hd.d),.t (R.map Rw.d)]
abbrev slS(cs ss:η Hd)(R:η Rw)(bg:η Str):Sl:=[ς (.ref 0),ς (.g (pgm cs ss R)),ς (.g (.t (bg.map .str)))]
def stQ(cs:η Hd):CH:=.ins 2 [.ref 1]::.dK (ae 2 (shC cs))::tlC cs
def stB(cs ss:η Hd):CH:=.ins 2 [.ref 1]::.dK (ae 2 (shC cs++shS ss))::(tlC cs++tlS ss)
theorem za(O:cs≠[])(hz:cs.length<=100)(W:(cs.map (·.1)).Nodup):Sim (sFl 2 0 (eV 0) (eDc .o (eCo .v [ψ] (iE (eIx (eV 1) (eK (.int 0)))) (bnd (.one 0)) tYs (eTu (aCn (eIx (eV 0) (eK (.int 0))) (aCn (eLs .o (aCn (eIx (eV 0) (eK (.int 1))) aNl)) aNl)))))) (slS cs ss R bg) [.ins 2 []] (stQ cs):=by
 have U:=mC (f:=Hd.d) (nm:=(·.1)) (vl:=λh:Hd=>[.int h.2.1]) (fe:=eTu (aCn (eIx (eV 0) (eK (.int 0))) (aCn (eLs .o (aCn (eIx (eV 0) (eK (.int 1))) aNl)) aNl))) (fi:=iE (eIx (eV 1) (eK (.int 0)))) (src:=[ψ]) (δ:=slS cs ss R bg) (ch:=[.ins 2 []]) (l:=cs) (λh _ ch=>by simp! only[Hd.d];simp! []) rfl rfl O (by rw[qc1];lia) W
 have Z:([CO.ins 2 []]:CH).length=1:=rfl;rw[Z]at U;refine .of (B':=.ins 2 [.ref (1+2*cs.length+1)]::(blk 1 (cs.map λh=>(h.1,[.int h.2.1]))++[.e (rfs 2 cs.length)]++[.dK (prs 1 (cs.map λh=>(h.1,[.int h.2.1])))])) (σ:=λi=>if i=0 then 0 else if i=1 then 1+2*cs.length+1 else 1+2*(i-2)) ?_ Ξ ?_ rfl
 .unfold sFl;rw[U,qa0];rfl
 .refine⟨λi j hi Y e=>?_,λ{i o} hi=>?_⟩
  .simp[stQ,tlC]at hi Y;split at e<;>split at e<;>(try split at e)<;>(try split at e)<;>lia
  .rcases i with _|_|i
   .cases hi;rfl
   .cases hi;show(CO.ins 2 _::_)[1+2*cs.length+1]?=_;rw[qd2,qf0 (by simp[bw];lia)];simp only[qc4,bw,qa6,qm1,show 1+2*cs.length-(2*cs.length+1)=0 by lia,qf3,rnO];unfold shC;rw[iI (vl:=λh:Hd=>[.int h.2.1]) (n:=1)];intro k hk;rw[if_neg Θ,if_neg Θ,qs7]
   .have hi:(tlC cs)[i]?=ς o:=hi;rwa[tlC,qa8]at hi;have⟨h,h1,rfl⟩:=mS hi;have hb:=(lm (n:=1) (ps:=cs.map λh=>(h.1,[.int h.2.1])) (k:=i) (p:=(h.1,[.int h.2.1])) (by rw[qa8,h1];rfl)).1;rw[if_neg Θ,if_neg Θ,dg,show 1+2*(i+1+1-2)=2*i+1 by lia,qd2,qd8,gL (ai hb)];exact hb
theorem bz:(stQ cs).length=cs.length+2:=by simp[stQ,tlC]
theorem zc(Y:ss≠[])(hz:cs.length+ss.length<=100)(W:((cs++ss).map (·.1)).Nodup)(hs:∀h∈ss,0<=h.2.1/\h.2.1<=1000):Sim (sUp (eAt 2 0 (eV 0)) (eDc .o (eCo .v [ψ] (iE (eIx (eV 1) (eK (.int 1)))) (bnd (.one 0)) tYs (eTu (aCn (eIx (eV 0) (eK (.int 0))) (aCn (e2 .o oMul.g (eLs .v (aCn (eK (.int 0)) aNl)) (eIx (eV 0) (eK (.int 1)))) aNl)))))) (slS cs ss R bg) (stQ cs) (stB cs ss):=by
 have hn2:(ss.map (·.1)).Nodup:=by rw[qd6,qe8]at W;exact W.2.1
 have Z:=mC (f:=Hd.d) (nm:=(·.1)) (vl:=λh:Hd=>qb1 h.2.1.toNat (.int 0)) (fe:=eTu (aCn (eIx (eV 0) (eK (.int 0))) (aCn (e2 .o oMul.g (eLs .v (aCn (eK (.int 0)) aNl)) (eIx (eV 0) (eK (.int 1)))) aNl))) (fi:=iE (eIx (eV 1) (eK (.int 1)))) (src:=[ψ]) (δ:=slS cs ss R bg) (ch:=stQ cs) (l:=ss) (λh hh ch=>by have⟨h1,h2⟩:=hs h hh;simp! only[Hd.d];simp! [oMul,hJ,l8,h1,h2,my]) rfl rfl Y (by rw[qc1];lia) hn2
 rw[bz]at Z;obtain⟨B,O⟩:∃B,B=stQ cs++blk (cs.length+2) (ss.map λh=>(h.1,qb1 h.2.1.toNat (.int 0)))++[.e (rfs (cs.length+2+1) ss.length)]++[.dK (prs (cs.length+2) (ss.map λh=>(h.1,qb1 h.2.1.toNat (.int 0))))]:=⟨_,rfl⟩;rw[<- O]at Z;have d1:gu (stQ cs) 1=ς (ae 2 (shC cs)):=rfl;have d2:gu B 1=ς (ae 2 (shC cs)):=by rw[O];rfl
 have d3:gu B (cs.length+2+2*ss.length+1)=ς (prs (cs.length+2) (ss.map λh=>(h.1,qb1 h.2.1.toNat (.int 0)))):=by
  have:B[cs.length+2+2*ss.length+1]?=ς (.dK (prs (cs.length+2) (ss.map λh=>(h.1,qb1 h.2.1.toNat (.int 0))))):=by rw[O,qf0 (by simp[bw,bz];lia)];rwa[qc4,bw,bz,qa6,qm1];rw[show cs.length+2+2*ss.length+1-(cs.length+2+2*ss.length+1)=0 by lia];rfl
  rwa[gu,this]
 have hf:∀{o:Nat}{sh:Sh},(ae o sh).map (·.1)=sh.map λp=>(.inr p.1:Key):=λ{o sh}=>by
  induction sh generalizing o with
  |nil=>rfl
  |cons p r ih=>simp[ae,ih]
 have hlr:∀{o:Nat}{sh:Sh},(ae o sh).length=sh.length:=λ{o sh}=>by have:=congrArg qj0 (hf (o:=o) (sh:=sh));simpa using this
 have U:((ae 2 (shC cs)++prs (cs.length+2) (ss.map λh=>(h.1,qb1 h.2.1.toNat (.int 0)))).map (·.1)).Nodup:=by
  rw[qd6,hf,lp];have e:((shC cs).map λp=>(qn1 p.1:Key))++((ss.map λh=>(h.1,qb1 h.2.1.toNat (.int 0:Dt))).map λp=>(qn1 p.1:Key))=((cs++ss).map (·.1)).map qn1:=by simp[shC,qb4]
  rw[e];exact qh9 _ (λa b h q=>h (qv9 q)) W
 refine .of (B':=B.set 1 (.dK (ae 2 (shC cs)++prs (cs.length+2) (ss.map λh=>(h.1,qb1 h.2.1.toNat (.int 0)))))) (σ:=λi=>if i<cs.length+2 then i else cs.length+2+2*(i-(cs.length+2))) ?_ (by rw[O];simp) ?_ (if_pos Θ)
 .unfold sUp;have ha:eAt 2 0 (eV 0) (slS cs ss R bg) (stQ cs)=ς (.ref 1,stQ cs):=rfl;rw[ha,qa0];dsimp only;rw[Z,qa0];dsimp only;rw[d1,qa0,d2,qa0,d3,qa0,if_pos ⟨Θ,U,by rw[hlr,pX,qc1];simp[shC];lia⟩]
 .have g0:∀{k:Nat},k<cs.length->(B.set 1 (.dK (ae 2 (shC cs)++prs (cs.length+2) (ss.map λh=>(h.1,qb1 h.2.1.toNat (.int 0))))))[k+2]?=(tlC cs)[k]?:=λ{k} hk=>by rw[gN Θ,O,qd8,qd8,gL (by rw[bz];lia)];rfl
  refine⟨λi j hi hj e=>?_,λ{i o} hi=>?_⟩
  .split at e<;>split at e<;>lia
  .rcases i with _|_|i
   .cases hi;rw[if_pos Θ,O];rfl
   .cases hi;rw[if_pos Θ,qe0 (by rw[O];simp[bz];lia)];rwa[rnO];rw[jQ];have r1:rnP (λi=>if i<cs.length+2 then i else cs.length+2+2*(i-(cs.length+2))) (ae 2 (shC cs))=ae 2 (shC cs):=bJ λk hk=>by simp[shC]at hk;rw[if_pos Θ]
    have r2:rnP (λi=>if i<cs.length+2 then i else cs.length+2+2*(i-(cs.length+2))) (ae (2+(shC cs).length) (shS ss))=prs (cs.length+2) (ss.map λh=>(h.1,qb1 h.2.1.toNat (.int 0))):=iI λk hk=>by
     have:(shC cs).length=cs.length:=by simp[shC]
     rw[this,if_neg Θ];lia
    rwa[rnP,qd6]at r1 r2 ⊢;rw[r1,r2]
   .have hi:(tlC cs++tlS ss)[i]?=ς o:=hi;have hcl:(tlC cs).length=cs.length:=by simp[tlC]
    rcases qi4 i cs.length with hl|hl
    .rw[gL Θ]at hi;rw[if_pos Θ];show _[i+2]?=_;rw[g0 hl,hi];rwa[tlC,qa8]at hi;have⟨h,_,rfl⟩:=mS hi;rw[dg]
    .rw[gR Θ,hcl]at hi;rwa[tlS,qa8]at hi;have⟨h,h1,rfl⟩:=mS hi;have hb:=(lm (n:=cs.length+2) (ps:=ss.map λh=>(h.1,qb1 h.2.1.toNat (.int 0))) (k:=i-cs.length) (p:=(h.1,qb1 h.2.1.toNat (.int 0))) (by rw[qa8,h1];rfl)).1;rw[if_neg Θ,dg,gN Θ,O,qd8,qd8,gR (by rw[bz];lia),bz,show cs.length+2+2*(i+1+1-(cs.length+2))-(cs.length+2)=2*(i-cs.length)by lia,gL (ai hb)];exact hb
end
noncomputable def tlR:S->S
 |.sq _ r=>r
 |s=>s
section
variable{cs ss:η Hd}{R:η Rw}{bg:η Str}
abbrev s3:Fs:=sFl 2 1 (eV 0) (eLs .o (aCn (eTu (aCn (eK (.int 0)) (aCn (eK (.int 0)) (aCn (eK (.int 0)) (aCn (eK (.int 0)) aNl))))) (aCn (eTu (aCn (eK (.int 0)) (aCn (eK (.int 0)) (aCn (eK (.int 0)) (aCn (eK (.int 0)) aNl))))) aNl)))
abbrev s4:Fs:=sFl 2 2 (eV 0) (eLs .o (aCn (eCo .o [ψ] (iE (eV 2)) (bnd (.one 0)) tYs (eTu (aCn (eV 0) (aCn (eK (.int 0)) aNl)))) (aCn (eLs .o aNl) aNl)))
abbrev s5:Fs:=sFl 2 3 (eV 0) (eLs .o (aCn (eLs .o aNl) (aCn (eLs .o aNl) aNl)))
abbrev s6:Fs:=sFl 2 4 (eV 0) (eK (.int 0))
abbrev s7:Fs:=sFl 2 5 (eV 0) (eK .non)
noncomputable def h4:η Dt:=[.int 0,.int 0,.int 0,.int 0]
theorem Fz{K:CO}{T:CH}:s3 (slS cs ss R bg) (.ins 2 [.ref 1]::K::T)=ς (.nx (slS cs ss R bg) (.ins 2 [.ref 1,.ref (T.length+2)]::K::(T++[.e [.g (.t h4),.g (.t h4)]]))):=rfl
theorem FA{K:CO}{T:CH}{a b:CV}(hb:bg.length<=100):s4 (slS cs ss R bg) (.ins 2 [a,b]::K::T)=ς (.nx (slS cs ss R bg) (.ins 2 [a,b,.ref (T.length+4)]::K::(T++[dl (bg.map λs=>Bx.d (s,0)),.e [],.e [.ref (T.length+2),.ref (T.length+3)]]))):=by
 have hc:eCo .o [ψ] (iE (eV 2)) (bnd (.one 0)) tYs (eTu (aCn (eV 0) (aCn (eK (.int 0)) aNl))) (slS cs ss R bg) (.ins 2 [a,b]::K::T)=ς (.ref (T.length+2),.ins 2 [a,b]::K::(T++[dl (bg.map λs=>Bx.d (s,0))])):=by
  have hi:iE (eV 2) (slS cs ss R bg) (.ins 2 [a,b]::K::T)=ς (bg.map .str,.ins 2 [a,b]::K::T):=rfl;unfold eCo;rw[hi,qa0];have:=bH (pt:=.one 0) (ft:=tYs) (fe:=eTu (aCn (eV 0) (aCn (eK (.int 0)) aNl))) (δ:=gC [ψ] (slS cs ss R bg)) (ch:=.ins 2 [a,b]::K::T) (f:=.str) (g:=λs:Str=>Bx.d (s,0)) (l:=bg) λs _=>⟨_,rfl,rfl,rfl⟩
  rw[this,qa0];dsimp only;rw[if_pos (by rw[qa6,qc1];lia),bZ];rfl
 rwa[s4,sFl,eLs,aCn,hc,qa0,aNl,qa9];simp[finL,dats,fin,al,eV,lent,CV.sol,cV,qc1]
theorem FB{K:CO}{T:CH}{a b c:CV}:s5 (slS cs ss R bg) (.ins 2 [a,b,c]::K::T)=ς (.nx (slS cs ss R bg) (.ins 2 [a,b,c,.ref (T.length+4)]::K::(T++[.e [],.e [],.e [.ref (T.length+2),.ref (T.length+3)]]))):=by rwa[s5,sFl,eLs,aCn,aNl,qa0,qa9];simp[finL,dats,fin,al,eV,lent,CV.sol,cV,qc1]
theorem Dz{K:CO}{T:CH}{a b c d:CV}:aZ s6 (aZ s7 gr) (slS cs ss R bg) (.ins 2 [a,b,c,d]::K::T)=ς (.nx (slS cs ss R bg) (.ins 2 [a,b,c,d,I 0,.g .non]::K::T)):=rfl
def stC(cs ss:η Hd)(bg:η Str):CH:=.ins 2 [.ref 1,.ref 2,.ref 3,.ref 4,I 0,.g .non]::.dK (ae 9 (shC cs++shS ss))::.e [.g (.t h4),.g (.t h4)]::.e [.ref 5,.ref 6]::.e [.ref 7,.ref 8]::dl (bg.map λs=>Bx.d (s,0))::.e []::.e []::.e []::(tlC cs++tlS ss)
theorem wc{o:CO}(h:o∈tlC cs++tlS ss):∃L,o=dl L:=by
 rcases qh1.mp h with h|h
 .rwa[tlC,qb9]at h;have⟨a,_,rfl⟩:=h;exact⟨_,rfl⟩
 .rwa[tlS,qb9]at h;have⟨a,_,rfl⟩:=h;exact⟨_,rfl⟩
theorem DA:Cl (stQ cs):=by
 unfold Cl;rw[bz];have W:=dh (sh:=shC cs) (o:=2) (n:=cs.length+2) (by simp[shC];lia);have U:(tlC cs).all (clO (cs.length+2))=θ:=qc0.mpr λo O=>by have⟨L,rfl⟩:=wc (ss:=[]) (cs:=cs) (by simpa[tlS] using O);exact pM
 rwa[stQ,qd4,qx7,clO,iA,W,U,qn8];exact decide_eq_true Θ
theorem p8:(stB cs ss).length=cs.length+ss.length+2:=by simp[stB,tlC,tlS]
theorem DB:Cl (stB cs ss):=by
 unfold Cl;rw[p8];have W:=dh (sh:=shC cs++shS ss) (o:=2) (n:=cs.length+ss.length+2) (by simp[shC,shS];lia);have U:(tlC cs++tlS ss).all (clO (cs.length+ss.length+2))=θ:=qc0.mpr λo O=>by have⟨L,rfl⟩:=wc O;exact pM
 rwa[stB,qd4,qx7,clO,iA,W,U,qn8];exact decide_eq_true Θ
theorem cD:(stC cs ss bg).length=cs.length+ss.length+9:=by simp[stC,tlC,tlS]
theorem we:Cl (stC cs ss bg):=by
 unfold Cl;rw[cD];have Y:=dh (sh:=shC cs++shS ss) (o:=9) (n:=cs.length+ss.length+9) (by simp[shC,shS];lia);have U:(tlC cs++tlS ss).all (clO (cs.length+ss.length+9))=θ:=qc0.mpr λo O=>by have⟨L,rfl⟩:=wc O;exact pM
 have W:∀k,k<9->decide (k<cs.length+ss.length+9)=θ:=λk Z=>decide_eq_true Θ
 rwa[stC,qd4,qx7,clO,iA,nV,Y,U,pL,W,qn8,zf8]
noncomputable def sgS(n i:Nat):Nat:=match i with
 |0=>0
 |1=>1
 |2=>n+2
 |3=>n+5
 |4=>n+8
 |5=>n+3
 |6=>n+4
 |7=>n+6
 |8=>n+7
 |i+9=>i+2
noncomputable def sgI(n j:Nat):Nat:=if j<2 then j else if j<n+2 then j+7 else if j=n+2 then 2 else if j=n+5 then 3 else if j=n+8 then 4 else if j=n+3 then 5 else if j=n+4 then 6 else if j=n+6 then 7 else 8
theorem p9{n i:Nat}(h:i<n+9):sgI n (sgS n i)=i:=by
 rcases i with _|_|_|_|_|_|_|_|_|i
 .rfl
 .rfl
 all_goals
  rwa[sgS];unfold sgI
  repeat first|rw[if_pos Θ]|rw[if_neg Θ]
theorem wf{T L:CH}:(T++L)[T.length+j]?=L[j]?:=by rw[gR Θ,qg7]
theorem wg(hc:cs≠[])(hs:ss≠[])(hz:cs.length+ss.length<=100)(hb:bg.length<=100)(Y:((cs++ss).map (·.1)).Nodup)(hv:∀h∈ss,0<=h.2.1/\h.2.1<=1000):∃B σ,F11 [.ref 0,.g (pgm cs ss R),.g (.t (bg.map .str))] [.ins 2 []]=ς (.g .non,B)/\At σ (stC cs ss bg) B/\σ 0=0:=by
 have hnc:(cs.map (·.1)).Nodup:=by rw[qd6,qe8]at Y;exact Y.1
 have rest:Sim (aZ s3 (aZ s4 (aZ s5 (aZ s6 (aZ s7 gr))))) (slS cs ss R bg) (stB cs ss) (stC cs ss bg):=by
  obtain⟨T,W⟩:∃T,T=tlC cs++tlS ss:=⟨_,rfl⟩;have Z:T.length=cs.length+ss.length:=by rw[W];simp[tlC,tlS]
  have O:∀o∈T,∃L,o=dl L:=λo ho=>wc (by rw[<- W];exact ho)
  have hr:rnP (sgS T.length) (ae 9 (shC cs++shS ss))=ae 2 (shC cs++shS ss):=bJ λk hk=>rfl
  have U:(stC cs ss bg).length=T.length+9:=by rw[cD,Z]
  unfold stB;rw[<- W];have e1:(T++[CO.e [.g (.t h4),.g (.t h4)]]).length=T.length+1:=by simp
  have e2':(T++[CO.e [.g (.t h4),.g (.t h4)]]++[dl (bg.map λs=>Bx.d (s,0)),.e [],.e [.ref (T.length+1+2),.ref (T.length+1+3)]]).length=T.length+4:=by simp
  have r3:=FA (cs:=cs) (ss:=ss) (R:=R) (bg:=bg) (K:=.dK (ae 2 (shC cs++shS ss))) (T:=T++[CO.e [.g (.t h4),.g (.t h4)]]) (a:=.ref 1) (b:=.ref (T.length+2)) hb;rw[e1]at r3;have r4:=FB (cs:=cs) (ss:=ss) (R:=R) (bg:=bg) (K:=.dK (ae 2 (shC cs++shS ss))) (T:=T++[CO.e [.g (.t h4),.g (.t h4)]]++[dl (bg.map λs=>Bx.d (s,0)),.e [],.e [.ref (T.length+1+2),.ref (T.length+1+3)]]) (a:=.ref 1) (b:=.ref (T.length+2)) (c:=.ref (T.length+1+4));rw[e2']at r4;refine .of (σ:=sgS T.length) (aF Fz (aF r3 (aF r4 Dz))) Ξ ?_ rfl;rwa[qd8];refine⟨λi j hi hj e=>?_,λ{i o} hi=>?_⟩
  .rw[U]at hi hj;rw[<- p9 hi,e,p9 hj]
  .have hi':i<T.length+9:=by rw[<- U];exact ai hi
   have ap:∀j L,(CO.ins 2 [.ref 1,.ref (T.length+2),.ref (T.length+1+4),.ref (T.length+4+4),I 0,.g .non]::CO.dK (ae 2 (shC cs++shS ss))::(T++L))[T.length+j+2]?=L[j]?:=λj L=>wf
   rcases i with _|_|_|_|_|_|_|_|_|i
   .cases hi;rfl
   .cases hi;rwa[rnO,hr];rfl
   .cases hi;exact ap 0 _
   .cases hi;exact ap 3 _
   .cases hi;exact ap 6 _
   .cases hi;rw[dg];exact ap 1 _
   .cases hi;exact ap 2 _
   .cases hi;exact ap 4 _
   .cases hi;exact ap 5 _
   .have hi:(tlC cs++tlS ss)[i]?=ς o:=hi;rw[<- W]at hi;have⟨L,rfl⟩:=O o (qa4 hi);rw[dg];show(T++_)[i]?=_;rw[gL (ai hi)];exact hi
 have t1:TrS (aZ s3 (aZ s4 (aZ s5 (aZ s6 (aZ s7 gr))))):=by have w:TrS (evS (av gc t11) (tlR (tlR d11.b))):=yF (dw t11) _;exact @w
 have t2:TrS (aZ (sUp (eAt 2 0 (eV 0)) (eDc .o (eCo .v [ψ] (iE (eIx (eV 1) (eK (.int 1)))) (bnd (.one 0)) tYs (eTu (aCn (eIx (eV 0) (eK (.int 0))) (aCn (e2 .o oMul.g (eLs .v (aCn (eK (.int 0)) aNl)) (eIx (eV 0) (eK (.int 1)))) aNl)))))) (aZ s3 (aZ s4 (aZ s5 (aZ s6 (aZ s7 gr)))))):=by have w:TrS (evS (av gc t11) (tlR d11.b)):=yF (dw t11) _;exact @w
 have z:=Sim.seq (δ:=slS cs ss R bg) @t2 DA (by rw[bz];lia) rfl (za (ss:=ss) (R:=R) (bg:=bg) hc Θ hnc) (Sim.seq @t1 DB (by rw[p8];lia) rfl (zc (R:=R) (bg:=bg) hs hz Y hv) rest);have⟨B,σ,h1,h2,h3,h4'⟩:=z;exact⟨B,σ,by rw[q11];exact vt h1,h3,h4'⟩
end
def fw:Nat->η Rw->η Dt
 |_,[]=>[]
 |k,r::R=>r0 k r::fw (k+1) R
theorem qa:∀{R:η Rw}{k i:Nat}{r:Rw},R[i]?=ς r->(fw k R)[i]?=ς (r0 (k+i) r)
 |[],_,_,_,h=>by simp at h
 |q::R,k,0,r,h=>by cases h;rfl
 |q::R,k,i+1,r,h=>by have:=qa (R:=R) (k:=k+1) (i:=i) (r:=r) ‹h›;rw[show k+1+i=k+(i+1)by lia]at this;exact this
theorem mD:∀{R:η Rw}{k:Nat},(fw k R).length=R.length
 |[],_=>rfl
 |q::R,k=>by simp[fw,mD (R:=R)]
theorem DC(i:Nat)(r:Rw):F9 [I i,.g r.d] ch=ς (.g (r0 i r),ch):=by cases r<;>exact xR .nil
theorem qb:∀{R:η Rw}{k:Nat},aE (bnd (.many [0,1])) tYs (eCa 2 F9 (aCn (eV 0) (aCn (eV 1) aNl))) [ψ,ψ] (bV k (R.map Rw.d)) ch=ς ((fw k R).map .g,ch)
 |[],_=>rfl
 |r::R,k=>by
  have hb:bnd (.many [0,1]) (.t [.int k,r.d]) [ψ,ψ]=ς [ς (I k),ς (.g r.d)]:=rfl
  have hc:eCa 2 F9 (aCn (eV 0) (aCn (eV 1) aNl)) [ς (I k),ς (.g r.d)] ch=ς (.g (r0 k r),ch):=by show kCa 2 F9 [I k,.g r.d] [ς (I k),ς (.g r.d)] ch=_;unfold kCa;rw[if_pos ⟨rfl,rfl⟩];exact DC k r
  rwa[qa3,bV,aE,hb,qa0,tYs,if_true,hc,CV.sol,qb (R:=R) (k:=k+1),qa9,fw]
section
variable{cs ss:η Hd}{R:η Rw}{bg:η Str}{ch:CH}
theorem zd(U:R.length<=1000):F10 [.g (pgm cs ss R)] ch=ς (.g (.e (fw 0 R)),ch):=by rw[q10];refine fX (jI (jH ?_ rfl));unfold eCo;have hi:iN (eIx (eV 0) (eK (.int 2))) [ς (.g (pgm cs ss R))] ch=ς (bV 0 (R.map Rw.d),ch):=rfl;show((iN (eIx (eV 0) (eK (.int 2))) [ς (.g (pgm cs ss R))] ch).bind _)=_;rw[hi,qa0];have O:gC [ψ,ψ] [ς (.g (pgm cs ss R))]=[ψ,ψ]:=rfl;dsimp only;show((aE _ _ _ (gC [ψ,ψ] [ς (.g (pgm cs ss R))]) _ _).bind _)=_;rw[O,qb,qa0];dsimp only;rw[if_pos (by rw[qa6,mD,qc1];lia),vo];rfl
abbrev Kp':=Int×η Str
noncomputable def Kp'.d(k:Kp'):Dt:=.t [.int k.1,.t (k.2.map .str)]
abbrev cod(bg:η Str)(ks:η Kp'):Dt:=.t [.t (bg.map .str),.t (ks.map Kp'.d)]
abbrev slH(cs ss:η Hd)(R:η Rw)(bg:η Str)(ks:η Kp')(inc:η Dt):Sl:=[ς (.ref 0),ς (.g (pgm cs ss R)),ς (.g (cod bg ks)),ς (.g (.e inc))]
variable{ks:η Kp'}{inc:η Dt}
def fx(cs ss:η Hd)(R:η Rw)(ks:η Kp')(inc:η Dt):Fx:=⟨R.map Rw.d,fw 0 R,ss.map λh=>.inr h.1,ss.map λh=>.int h.2.1,((cs++ss).filter λh=>h.2.2).map λh=>.str h.1,ks.map λk=>.inl k.1,ks.map λk=>.t (k.2.map .str),inc⟩
theorem f9{k:Nat}{fs:η CV}{e:Fg}{d:Dt}(U:δ[0]?=ς (ς (.ref 0)))(h:e δ [.ins 3 fs]=ς (.g d,[.ins 3 fs]))(W:fs.length=k)(O:k<1000):sFl 3 k (eV 0) e δ [.ins 3 fs]=ς (.nx δ [.ins 3 (fs++[.g d])]):=by unfold sFl eV;rw[h,qa0];simp[U,lent,cV,CV.sol,W,O]
theorem wj(U:(ss.map (·.1)).Nodup)(hl:ss.length<=100):eDc .v (eCo .v [ψ] (iE (eIx (eV 1) (eK (.int 1)))) (bnd (.one 0)) tYs (eTu (aCn (eIx (eV 0) (eK (.int 0))) (aCn (eIx (eV 0) (eK (.int 1))) aNl)))) (slH cs ss R bg ks inc) ch=ς (.g (.dct (ss.map λh=>.inr h.1) (ss.map λh=>.int h.2.1)),ch):=by
 have O:eCo .v [ψ] (iE (eIx (eV 1) (eK (.int 1)))) (bnd (.one 0)) tYs (eTu (aCn (eIx (eV 0) (eK (.int 0))) (aCn (eIx (eV 0) (eK (.int 1))) aNl))) (slH cs ss R bg ks inc) ch=ς (.g (.e ((ss.map λh=>(h.1,h.2.1)).map Bx.d)),ch):=by
  have hi:iE (eIx (eV 1) (eK (.int 1))) (slH cs ss R bg ks inc) ch=ς (ss.map Hd.d,ch):=rfl;unfold eCo;rw[hi,qa0];have:=bH (pt:=.one 0) (ft:=tYs) (fe:=eTu (aCn (eIx (eV 0) (eK (.int 0))) (aCn (eIx (eV 0) (eK (.int 1))) aNl))) (δ:=gC [ψ] (slH cs ss R bg ks inc)) (ch:=ch) (f:=Hd.d) (g:=λh:Hd=>Bx.d (h.1,h.2.1)) (l:=ss) λh _=>⟨_,rfl,rfl,rfl⟩
  rw[this,qa0];dsimp only;rw[if_pos (by rw[qa6,qc1];lia),bZ,qd1];rfl
 unfold eDc;rw[O,qa0];have e:((ss.map λh=>((h.1,h.2.1):Bx)).map Bx.d).map CV.g=(ss.map λh=>((h.1,h.2.1):Bx)).map (CV.g ∘ Bx.d):=by rw[qd1]
 show((aT ch (((ss.map λh=>((h.1,h.2.1):Bx)).map Bx.d).map CV.g)).bind _)=_;rw[e,eY,qa0,if_pos (by rw[cB];exact k7 (by simpa[qb4] using U)),om];simp[bxK,qb4]
theorem wl(hc:cs≠[])(hs:ss≠[])(hl:cs.length+ss.length<=100):eCo .v [ψ] (iE (e2 .v oAdd.g (eIx (eV 1) (eK (.int 0))) (eIx (eV 1) (eK (.int 1))))) (bnd (.one 0)) (hW (eIx (eV 0) (eK (.int 2)))) (eIx (eV 0) (eK (.int 0))) (slH cs ss R bg ks inc) ch=ς (.g (.e (((cs++ss).filter λh=>h.2.2).map λh=>.str h.1)),ch):=by
 have hi:iE (e2 .v oAdd.g (eIx (eV 1) (eK (.int 0))) (eIx (eV 1) (eK (.int 1)))) (slH cs ss R bg ks inc) ch=ς ((cs++ss).map Hd.d,ch):=by
  have O:e2 .v oAdd.g (eIx (eV 1) (eK (.int 0))) (eIx (eV 1) (eK (.int 1))) (slH cs ss R bg ks inc) ch=ς (.g (.t ((cs++ss).map Hd.d)),ch):=by
   have U:oAdd.g (.t (cs.map Hd.d)) (.t (ss.map Hd.d))=ς (.f (.t ((cs++ss).map Hd.d))):=by show orO eG ip _ _=_;unfold orO eG;simp[qc1,hc,hs,show cs.length+ss.length<=16777216 by lia]
   rw[pz (x:=.g (.t (cs.map Hd.d))) (y:=.g (.t (ss.map Hd.d))) (ch1:=ch) (ch2:=ch) rfl rfl rfl rfl U];rfl
  unfold iE;rw[O];rfl
 unfold eCo;rw[hi,qa0];have:=cX (pt:=.one 0) (ft:=hW (eIx (eV 0) (eK (.int 2)))) (fe:=eIx (eV 0) (eK (.int 0))) (δ:=gC [ψ] (slH cs ss R bg ks inc)) (ch:=ch) (f:=Hd.d) (g:=λh:Hd=>.str h.1) (p:=λh:Hd=>h.2.2) (l:=cs++ss) λh _=>⟨_,rfl,by simp! only[gC,Hd.d];simp! [],λ_=>rfl⟩
 rw[this,qa0];dsimp only;rw[if_pos (by rw[qa6,qc1];have:=zc9 (λh:Hd=>h.2.2) (cs++ss);rw[qc4]at this;lia),bZ];rfl
theorem wm(U:(ks.map (·.1)).Nodup):eDc .v (eIx (eV 2) (eK (.int 1))) (slH cs ss R bg ks inc) ch=ς (.g (.dct (ks.map λk=>.inl k.1) (ks.map λk=>.t (k.2.map .str))),ch):=by
 have W:eIx (eV 2) (eK (.int 1)) (slH cs ss R bg ks inc) ch=ς (.g (.t (ks.map Kp'.d)),ch):=rfl
 have hp:∀ks:η Kp',aT ch ((ks.map Kp'.d).map .g)=ς (dp (ks.map λk=>(.inl k.1,.t (k.2.map .str)))):=λks=>by
  induction ks with
  |nil=>rfl
  |cons k ks O=>show(bY ch (.g (Kp'.d k))).bind _=_;have h1:bY ch (.g (Kp'.d k))=ς (.inl k.1,.g (.t (k.2.map .str))):=rfl;rw[h1,qa0];show((aT ch ((ks.map Kp'.d).map .g)).map _)=_;rw[O];rfl
 unfold eDc;rw[W,qa0];show((aT ch ((ks.map Kp'.d).map .g)).bind _)=_
 rw[hp,qa0,if_pos (by
  rw[cB,qd1];have e:(ks.map ((λp:Key×Dt=>p.1) ∘ λk:Kp'=>(.inl k.1,.t (k.2.map .str))))=(ks.map (·.1)).map qm6:=by simp[qb4]
  rw[e];exact qh9 _ (λa b h q=>h (qm6.inj q)) U),om]
 simp[qb4]
noncomputable def sgH(τ:Nat->Nat)(m i:Nat):Nat:=match i with
 |0=>0
 |1=>1+τ 0
 |2=>m+1
 |3=>m+3
 |4=>1+τ 1
 |5=>1+τ 2
 |6=>1+τ 3
 |7=>1+τ 4
 |8=>m+2
 |9=>1+τ 5
 |10=>1+τ 6
 |11=>1+τ 7
 |12=>1+τ 8
 |i+13=>1+τ (i+9)
noncomputable def sJ(k:Nat):Nat:=match k with
 |0=>1
 |1=>4
 |2=>5
 |3=>6
 |4=>7
 |5=>9
 |6=>10
 |7=>11
 |8=>12
 |k+9=>k+13
theorem wo{τ:Nat->Nat}{n i:Nat}(hi:i<n+13):((i=0/\sgH τ m i=0)\/(i=2/\sgH τ m i=m+1)\/(i=3/\sgH τ m i=m+3)\/(i=8/\sgH τ m i=m+2))\/∃k,k<n+9/\i=sJ k/\sgH τ m i=1+τ k:=by
 rcases i with _|_|_|_|_|_|_|_|_|_|_|_|_|i
 .exact .inl (.inl ⟨rfl,rfl⟩)
 .exact .inr ⟨0,Θ,rfl,rfl⟩
 .exact .inl (.inr (.inl ⟨rfl,rfl⟩))
 .exact .inl (.inr (.inr (.inl ⟨rfl,rfl⟩)))
 .exact .inr ⟨1,Θ,rfl,rfl⟩
 .exact .inr ⟨2,Θ,rfl,rfl⟩
 .exact .inr ⟨3,Θ,rfl,rfl⟩
 .exact .inr ⟨4,Θ,rfl,rfl⟩
 .exact .inl (.inr (.inr (.inr ⟨rfl,rfl⟩)))
 .exact .inr ⟨5,Θ,rfl,rfl⟩
 .exact .inr ⟨6,Θ,rfl,rfl⟩
 .exact .inr ⟨7,Θ,rfl,rfl⟩
 .exact .inr ⟨8,Θ,rfl,rfl⟩
 .exact .inr ⟨i+9,Θ,rfl,rfl⟩
def p0(bg:η Str):Bool->Pg:=λb=>⟨0,0,0,0,bif b then []else bg.map λs=>(s,0),[]⟩
theorem p0_b:(p0 bg ξ).b=bg.map λs=>Bx.d (s,0):=by show(bg.map λs=>((s,0):Bx)).map Bx.d=_;rw[qd1];rfl
theorem p0_d:(p0 bg ξ).d=.t (h4++[.e (bg.map λs=>Bx.d (s,0)),.e []]):=by rw[<- p0_b];rfl
theorem ze:F15 [.ref 0,I 0] (stC cs ss bg)=ς (.g (.t (h4++[.e (bg.map λs=>Bx.d (s,0)),.e []])),stC cs ss bg):=by unfold stC;generalize (bg.map λs=>Bx.d (s,0))=L;simp! only[q15,h4];simp! []
theorem zf:F17 [.ref 0] (stC cs ss bg)=ς (I 0,stC cs ss bg):=rfl
theorem wp (hcn:cs≠[]) (hs:ss≠[]) (hz:cs.length+ss.length<=100) (hb:bg.length<=100) (hR:R.length<=1000) (hn:((cs++ss).map (·.1)).Nodup) (hv:∀ h∈ss,0<=h.2.1/\h.2.1<=1000) (hk:(ks.map (·.1)).Nodup) :
  ∃B σ,F19 [.ref 0,.g (pgm cs ss R),.g (cod bg ks),.g (.e inc)] [.ins 3 []]=ς (.g .non,B)/\At σ (hc (shC cs++shS ss) ⟨fx cs ss R ks inc,[.wake],p0 bg,ξ,ψ,[],ξ,0⟩ ψ (tlC cs++tlS ss)) B/\σ 0=0:=by
 have hns:(ss.map (·.1)).Nodup:=by rw[qd6,qe8]at hn;exact hn.2.1
 have⟨O,τ,k1,k2,k3⟩:=wg (R:=R) (bg:=bg) hcn hs hz hb hn hv;have hSR:0<O.length:=by have:=k2.lt (i:=0) (by rw[cD];lia);lia
 obtain⟨U,Z⟩:∃U:η CV,U=[.g (.t (R.map Rw.d)),.g (.e (fw 0 R)),.g (.dct (ss.map λh=>.inr h.1) (ss.map λh=>.int h.2.1)),.g (.e (((cs++ss).filter λh=>h.2.2).map λh=>.str h.1)),.g (.dct (ks.map λk=>.inl k.1) (ks.map λk=>.t (k.2.map .str))),.g (.e inc)]:=⟨_,rfl⟩;obtain⟨S',hS'⟩:∃S':CH,S'=O.map (rnO (1 + ·)):=⟨_,rfl⟩;have W:U.length=6:=by rw[Z];rfl
 have Y:S'.length=O.length:=by rw[hS',qa6]
 -- the six fixed parts
 have a1:=f9 (k:=0) (fs:=[]) (e:=eIx (eV 1) (eK (.int 2))) (d:=.t (R.map Rw.d)) (δ:=slH cs ss R bg ks inc) rfl rfl rfl Ω;have a2:=f9 (k:=1) (fs:=[.g (.t (R.map Rw.d))]) (e:=eCa 1 F10 (aCn (eV 1) aNl)) (d:=.e (fw 0 R)) (δ:=slH cs ss R bg ks inc) rfl (by show kCa 1 F10 [.g (pgm cs ss R)] (slH cs ss R bg ks inc) _=_;unfold kCa;rw[if_pos ⟨rfl,rfl⟩];exact zd hR) rfl Ω;have a3:=f9 (k:=2) (fs:=[.g (.t (R.map Rw.d)),.g (.e (fw 0 R))]) (δ:=slH cs ss R bg ks inc) rfl (wj (R:=R) (bg:=bg) (ks:=ks) (inc:=inc) (cs:=cs) hns Θ) rfl Ω;have a4:=f9 (k:=3) (fs:=[.g (.t (R.map Rw.d)),.g (.e (fw 0 R)),.g (.dct (ss.map λh=>.inr h.1) (ss.map λh=>.int h.2.1))]) (δ:=slH cs ss R bg ks inc) rfl (wl (R:=R) (bg:=bg) (ks:=ks) (inc:=inc) hcn hs hz) rfl Ω;have a5:=f9 (k:=4) (fs:=[.g (.t (R.map Rw.d)),.g (.e (fw 0 R)),.g (.dct (ss.map λh=>.inr h.1) (ss.map λh=>.int h.2.1)),.g (.e (((cs++ss).filter λh=>h.2.2).map λh=>.str h.1))]) (δ:=slH cs ss R bg ks inc) rfl (wm (R:=R) (bg:=bg) (inc:=inc) (cs:=cs) (ss:=ss) hk) rfl Ω;have a6:=f9 (k:=5) (fs:=[.g (.t (R.map Rw.d)),.g (.e (fw 0 R)),.g (.dct (ss.map λh=>.inr h.1) (ss.map λh=>.int h.2.1)),.g (.e (((cs++ss).filter λh=>h.2.2).map λh=>.str h.1)),.g (.dct (ks.map λk=>.inl k.1) (ks.map λk=>.t (k.2.map .str)))]) (e:=eB .v bList.g (aCn (eV 3) aNl)) (d:=.e inc) (δ:=slH cs ss R bg ks inc) rfl rfl rfl Ω;rwa[qp3,qv1]at a1 a2 a3 a4 a5 a6;rw[<- Z]at a6
 -- the store
 have m7:=gG (F:=F11) (c:=2) (n:=3) (ch:=[.ins 3 U]) (δ:=slH cs ss R bg ks inc) (fs:=aCn (eV 1) (aCn (eIx (eV 2) (eK (.int 0))) aNl)) (ds:=[pgm cs ss R,.t (bg.map .str)]) (ah _) rfl rfl k1 hSR
 have a7:sFl 3 6 (eV 0) (eMk 2 3 F11 (aCn (eV 1) (aCn (eIx (eV 2) (eK (.int 0))) aNl))) (slH cs ss R bg ks inc) [.ins 3 U]=ς (.nx (slH cs ss R bg ks inc) (.ins 3 (U++[.ref 1])::S')):=by unfold sFl;rw[m7,qa0,hS'];simp[eV,lent,cV,CV.sol,W]
 -- the hand
 have m8:=gG (F:=F12) (c:=0) (n:=1) (ch:=.ins 3 (U++[.ref 1])::S') (δ:=slH cs ss R bg ks inc) (fs:=aNl) (ds:=[]) (a':=[.ins 0 [.ref 1,.g (.bl ξ)],.dK []]) (ah _) rfl rfl rfl Ξ
 have a8:sFl 3 7 (eV 0) (eMk 0 1 F12 aNl) (slH cs ss R bg ks inc) (.ins 3 (U++[.ref 1])::S')=ς (.nx (slH cs ss R bg ks inc) (.ins 3 (U++[.ref 1,.ref (S'.length+1)])::(S'++[.ins 0 [.ref (S'.length+2),.g (.bl ξ)],.dK []]))):=by unfold sFl;rw[m8,qa0];simp[eV,lent,cV,CV.sol,W,rnO,rn,rnP]
 obtain⟨H,hH⟩:∃H:CH,H=S'++[.ins 0 [.ref (S'.length+2),.g (.bl ξ)],.dK []]:=⟨_,rfl⟩;rw[<- hH]at a8;have hHl:H.length=S'.length+2:=by rw[hH];simp
 have a9:sFl 3 8 (eV 0) (eK (.int 0)) (slH cs ss R bg ks inc) (.ins 3 (U++[.ref 1,.ref (S'.length+1)])::H)=ς (.nx (slH cs ss R bg ks inc) (.ins 3 (U++[.ref 1,.ref (S'.length+1),I 0])::H)):=by simp[sFl,eK,eV,lent,cV,CV.sol,W]
 have a10:sFl 3 9 (eV 0) (eK .non) (slH cs ss R bg ks inc) (.ins 3 (U++[.ref 1,.ref (S'.length+1),I 0])::H)=ς (.nx (slH cs ss R bg ks inc) (.ins 3 (U++[.ref 1,.ref (S'.length+1),I 0,.g .non])::H)):=by simp[sFl,eK,eV,lent,cV,CV.sol,W]
 -- the plan
 have emb:∀X L,Em (1 + ·) O (X::(S'++L))->True:=λ_ _ _=>trivial
 have atS:∀(X:CO)(L:CH),At (λi=>1+τ i) (stC cs ss bg) (X::(S'++L)):=λX L=>⟨λi j hi hj e=>k2.inj i j hi hj (by have e:1+τ i=1+τ j:=e;lia),λ{i o} hi=>by have h1:=k2.get hi;show(X::(S'++L))[1+τ i]?=_;rw[zf5,qd2,gL (by rw[Y];exact ai h1),hS',qa8,h1,qa9,pw]⟩
 obtain⟨X,hX⟩:∃X:CO,X=.ins 3 (U++[.ref 1,.ref (S'.length+1),I 0,.g .non]):=⟨_,rfl⟩;have atH:At (λi=>1+τ i) (stC cs ss bg) (X::H):=by rw[hH];exact atS _ _
 have cl0':∀as:η Dt,(CV.ref 0::as.map .g).all (clV (stC cs ss bg).length)=θ:=λas=>by simp[clV,cD]
 have pf:F17 [.ref 1] (X::H)=ς (I 0,X::H):=by have:=atH.pure (F:=F17) (args:=[.ref 0]) (ah _) we (cl0' []) zf;rwa[rnA,qa3,qf8,rn,k3]at this;exact this
 have pp:F15 [.ref 1,I 0] (X::H)=ς (.g (.t (h4++[.e (bg.map λs=>Bx.d (s,0)),.e []])),X::H):=by have:=atH.pure (F:=F15) (args:=[.ref 0,I 0]) (ah _) we (cl0' [.int 0]) ze;rwa[rnA,qa3,qf8,rn,k3]at this;exact this
 have h1:∃f,(X::H)[1]?=ς (.ins 2 f):=by have:=atH.get (i:=0) rfl;rw[k3]at this;exact⟨_,this⟩
 have⟨fst,h1⟩:=h1;have h0:(X::H)[0]?=ς (.ins 3 (U++[.ref 1,.ref (S'.length+1),I 0,.g .non])):=by rw[hX];rfl
 have h06:(U++[.ref 1,.ref (S'.length+1),I 0,.g .non])[6]?=ς (.ref 1):=by rw[Z];rfl
 obtain⟨Q,hQ⟩:∃Q:CH,Q=X::H:=⟨_,rfl⟩;rw[<- hQ]at h0 h1 pf pp
 have m21':F18 [.ref 0] Q=ς (I 0,Q):=by simp! only[q18];simp[lent,h0,h06,h1,CV.old,pf,CV.sol]
 have m19':F16 [.ref 0,I 0] Q=ς (.g (.t (h4++[.e (bg.map λs=>Bx.d (s,0)),.e []])),Q):=by simp! only[q16];simp[lent,h0,h06,h1,CV.old,pp,CV.sol]
 have m17:=jJ (ch:=X::H) (p:=p0 bg ξ) (by rw[qc1];show 0<_;decide);have hXl:(X::H).length=S'.length+3:=by simp[hHl]
 rw[hXl]at m17;have m17':F14 [.g (.t (h4++[.e (bg.map λs=>Bx.d (s,0)),.e []]))] (X::H)=ς (.ref (S'.length+3),X::H++[dl [Sm.d .wake]]):=by rw[<- p0_d];exact m17
 have a11:sFl 3 10 (eV 0) (eCa 1 F14 (aCn (eMe 3 2 F16 (eV 0) (aCn (eMe 3 1 F18 (eV 0) aNl) aNl)) aNl)) (slH cs ss R bg ks inc) (X::H)=ς (.nx (slH cs ss R bg ks inc) (.ins 3 (U++[.ref 1,.ref (S'.length+1),I 0,.g .non,.ref (S'.length+3)])::(H++[dl [Sm.d .wake]]))):=by
  have he:eCa 1 F14 (aCn (eMe 3 2 F16 (eV 0) (aCn (eMe 3 1 F18 (eV 0) aNl) aNl)) aNl) (slH cs ss R bg ks inc) (X::H)=ς (.ref (S'.length+3),X::H++[dl [Sm.d .wake]]):=by rw[<- hQ]at m17' ⊢;rwa[eCa,kCa,aCn,eMe,aNl,eV];simp[lent,h0,CV.old,m21',m19',m17']
  unfold sFl;rw[he,qa0,hX];simp[eV,lent,cV,CV.sol,W]
 refine⟨_,sgH τ O.length,by rw[q19];rw[hX]at a11;exact vt (aF a1 (aF a2 (aF a3 (aF a4 (aF a5 (aF a6 (aF a7 (aF a8 (aF a9 (aF a10 (aF a11 rfl))))))))))),?_,rfl⟩;have hBH:H++[dl [Sm.d .wake]]=S'++[.ins 0 [.ref (O.length+2),.g (.bl ξ)],.dK [],dl [Sm.d .wake]]:=by rw[hH,Y];simp
 rw[hBH,Y];have A:=atS (.ins 3 (U++[.ref 1,.ref (O.length+1),I 0,.g .non,.ref (O.length+3)])) [.ins 0 [.ref (O.length+2),.g (.bl ξ)],.dK [],dl [Sm.d .wake]];obtain⟨B,hB⟩:∃B:CH,B=.ins 3 (U++[.ref 1,.ref (O.length+1),I 0,.g .non,.ref (O.length+3)])::(S'++[.ins 0 [.ref (O.length+2),.g (.bl ξ)],.dK [],dl [Sm.d .wake]]):=⟨_,rfl⟩;rw[<- hB]at A ⊢
 have tlB:∀j,B[O.length+1+j]?=([.ins 0 [.ref (O.length+2),.g (.bl ξ)],.dK [],dl [Sm.d .wake]]:CH)[j]?:=λj=>by rw[hB,show O.length+1+j=O.length+j+1 by lia,qd2,<- Y];exact wf
 have hr:rnP (sgH τ O.length) (ae 13 (shC cs++shS ss))=rnP (λi=>1+τ i) (ae 9 (shC cs++shS ss)):=by
  have:∀{sh:Sh}{a b:Nat},(∀k,sgH τ O.length (a+13+k)=1+τ (a+9+k))->True:=λ_=>trivial
  have g:∀(sh:Sh)(a:Nat),rnP (sgH τ O.length) (ae (a+13) sh)=rnP (λi=>1+τ i) (ae (a+9) sh):=λsh=>by
   induction sh with
   |nil=>intro a;rfl
   |cons p r ih=>intro a;have:=ih (a+1);rw[show a+1+13=a+13+1 by lia,show a+1+9=a+9+1 by lia]at this;rwa[rnP,ae,qa3,rn]at this ⊢;rw[this];rfl
  exact g _ 0
 have gt:=λk o h=>A.get (i:=k) (o:=o) h
 refine jK (λi j hi hj e=>?_) ?_ (gt 0 _ rfl) ?_ ?_ ?_ (gt 2 _ rfl) (gt 3 _ rfl) (gt 4 _ rfl) ?_ ?_ (gt 6 _ rfl) (gt 7 _ rfl) (gt 8 _ rfl) λi o hi=>?_
 .have hN:(ar ψ (tlC cs++tlS ss)).length=cs.length+ss.length:=by simp[ar,tlC,tlS]
  rw[hN]at hi hj;have lt:∀k,k<cs.length+ss.length+9->τ k<O.length:=λk hk=>k2.lt (by rw[cD];exact hk)
  rcases wo (τ:=τ) (m:=O.length) hi with hi'|⟨a,ha,rfl,ea⟩<;>rcases wo (τ:=τ) (m:=O.length) hj with hj'|⟨b,hb',rfl,eb⟩
  .rcases hi' with ⟨rfl,x⟩|⟨rfl,x⟩|⟨rfl,x⟩|⟨rfl,x⟩<;>rcases hj' with ⟨rfl,y⟩|⟨rfl,y⟩|⟨rfl,y⟩|⟨rfl,y⟩<;>first|rfl|(rw[x,y]at e;lia)
  .have:=lt b hb';rw[eb]at e;rcases hi' with ⟨rfl,x⟩|⟨rfl,x⟩|⟨rfl,x⟩|⟨rfl,x⟩<;>(rw[x]at e;lia)
  .have:=lt a ha;rw[ea]at e;rcases hj' with ⟨rfl,x⟩|⟨rfl,x⟩|⟨rfl,x⟩|⟨rfl,x⟩<;>(rw[x]at e;lia)
  .rw[ea,eb]at e;rw[k2.inj a b (by rw[cD];exact ha) (by rw[cD];exact hb') Θ]
 .rw[hB,Z];rwa[sgH,qf3,hO,rnO,fx,qa3,qf8,rn,lvO,k3,qv1,qp3]
 .exact tlB 0
 .exact tlB 2
 .have:=gt 1 _ rfl;rwa[rnO]at this ⊢;rw[show off ψ=13 from rfl,hr];exact this
 .exact tlB 1
 .have:=gt 5 _ rfl;rw[dg]at this;rw[show(p0 bg ξ).b=_ from p0_b];exact this
 .have hi:(tlC cs++tlS ss)[i]?=ς o:=hi;have:=gt (i+9) o hi;have⟨L,rfl⟩:=wc (qa4 hi);rw[dg]at this ⊢;exact this
end
def RwP(cs ss:η Hd):Rw->Prop
 |.op _ _ a b=>cZ a/\cZ b
 |.load _ n=>n∈cs.map (·.1)
 |.store n a=>n∈cs.map (·.1)/\cZ a
 |.take _ n a=>n∈ss.map (·.1)/\cZ a
 |.lay n a b=>n∈ss.map (·.1)/\cZ a/\cZ b
 |.copy _ a|.say a|.fin a=>cZ a
 |.hear _|.ife _ _|.go _=>True
structure Pr(cs ss:List Hd)(R:List Rw)(bg:List Str)(ks:List Kp')(inc:List Dt)(nm:List Str):Prop where
 c0:cs≠[]
 s0:ss≠[]
 len:cs.length+ss.length<=100
 nd:((cs++ss).map (·.1)).Nodup
 cv:∀h∈cs,Vi (.int h.2.1)
 sv:∀h∈ss,0<h.2.1/\h.2.1<=1000
 rl:0<R.length/\R.length<=1000
 row:∀r∈R,RwP cs ss r
 lead:∀(i:Nat) r p,R[i]?=ς r->ml i r p->∃j:Nat,p=j/\j<R.length
 bn:bg.Nodup/\bg.length<=6
 kn:(ks.map (·.1)).Nodup
 kb:∀k∈ks,k.2.Nodup/\k.2.length<=6/\∀s∈k.2,s∈nm
 inc:∀d∈inc,Vi d
section
variable{cs ss:η Hd}{R:η Rw}{bg:η Str}{ks:η Kp'}{inc:η Dt}{nm:η Str}
theorem lq{α:Type}{l:η α}{a:α}(h:a∈l):∃k:Nat,l[k]?=ς a:=qu4.mp h
theorem vp_c{n:Str}(h:n∈cs.map (·.1)):Vp (shC cs++shS ss) n 0:=by
 have⟨a,O,rfl⟩:=qb9.mp h;have⟨k,U⟩:=lq O;refine⟨k,1,?_,Θ⟩;have:(shC cs)[k]?=ς (a.1,1):=by simp[shC,U]
 rw[gL (ai this)];exact this
theorem wq:∀{ss:η Hd}{k:Nat}{a:Hd},(ss.map (·.1)).Nodup->ss[k]?=ς a->am (ss.map λh=>(qn1 h.1:Key)) (ss.map λh=>.int h.2.1) (qn1 a.1)=ς (.int a.2.1)
 |[],_,_,_,h=>by simp at h
 |b::ss,0,a,_,h=>by cases h;simp[am]
 |b::ss,k+1,a,U,h=>by
  have O:=qc6.mp U;have Y:a.1∈ss.map (·.1):=qb9.mpr ⟨a,qa4 h,rfl⟩;have:¬ b.1=a.1:=λe=>O.1 (by show b.1∈_;rw[e];exact Y)
  have W:=wq (ss:=ss) (k:=k) O.2 ‹h›;rwa[qa3,am,ze6,this,if_false];exact W
theorem sh_s(P:Pr cs ss R bg ks inc nm){n:Str}(h:n∈ss.map (·.1)):yN (fx cs ss R ks inc) (shC cs++shS ss) n:=by
 have⟨a,O,rfl⟩:=qb9.mp h;have⟨k,U⟩:=lq O;have W:=P.sv a O;refine⟨(shC cs).length+k,a.2.1.toNat,?_,Θ,?_⟩
 .rw[gR Θ,qg7];simp[shS,U]
 .have:=wq (by have:=P.nd;rw[qd6,qe8]at this;exact this.2.1) U;rw[show((a.2.1.toNat:Nat):Int)=a.2.1 by lia];exact this
theorem Pr.xr(P:Pr cs ss R bg ks inc nm):XR (fx cs ss R ks inc) R (shC cs++shS ss) nm:=by
 refine⟨⟨?_,λd O=>?_,P.inc⟩,rfl,λi r h=>?_,λr Z=>?_,P.lead,λk d h=>?_⟩
 .have:(shC cs++shS ss).map (·.1)=(cs++ss).map (·.1):=by simp[shC,shS,qb4]
  rw[this];exact P.nd
 .rwa[fx,qb9]at O;have⟨h,_,rfl⟩:=O;exact⟨_,rfl⟩
 .have:=qa (k:=0) h;rw[zf9]at this;exact this
 .have:=P.row r Z;cases r with
  |op x sg a b=>exact this
  |load x n=>exact vp_c this
  |store n a=>exact⟨vp_c this.1,this.2⟩
  |take x n a=>exact⟨sh_s P this.1,this.2⟩
  |lay n a b=>exact⟨sh_s P this.1,this.2⟩
  |copy x a=>exact this
  |say a=>exact this
  |fin a=>exact this
  |hear x=>trivial
  |ife x t=>trivial
  |go t=>trivial
 .have:∀{ks:η Kp'},am (ks.map λk=>(qm6 k.1:Key)) (ks.map λk=>.t (k.2.map .str)) k=ς d->∃q∈ks,d=.t (q.2.map .str):=λ{ks}=>by
   induction ks with
   |nil=>intro h;cases h
   |cons q ks Y=>
    intro h;rwa[qa3,am]at h;split at h
    .cases h;exact⟨q,.head _,rfl⟩
    .have⟨U,h1,h2⟩:=Y h;exact⟨U,.tail _ h1,h2⟩
  have⟨q,W,rfl⟩:=this h;exact⟨q.2,rfl,(P.kb q W)⟩
def f0(cs:η Hd):Vf:=λn p=>match cs.find? λh=>decide (h.1=n)with
 |some h=>if p=0 then h.2.1 else 0
 |none=>0
theorem f0_c{h:Hd}(Z:(cs.map (·.1)).Nodup)(O:h∈cs):f0 cs h.1 0=h.2.1:=by
 have:cs.find? (λq=>decide (q.1=h.1))=ς h:=by
  induction cs with
  |nil=>cases O
  |cons q cs W=>
   have U:=qc6.mp Z;rcases qc3.mp O with rfl|O
   .simp[qt9]
   .have Y:¬ q.1=h.1:=λe=>U.1 (qb9.mpr ⟨h,O,e.symm⟩)
    rwa[qt9,Y,decide_false];exact W U.2 O
 unfold f0;rw[this];rfl
theorem f0_s{n:Str}{p:Nat}(h:n∉cs.map (·.1)):f0 cs n p=0:=by
 have:cs.find? (λq=>decide (q.1=n))=ψ:=by rw[List.find?_eq_none];intro q O e;exact h (qb9.mpr ⟨q,O,of_decide_eq_true e⟩)
 unfold f0;rw[this]
omit x in
theorem f0_n(O:∀h∈cs,Vi (.int h.2.1))(n:Str)(p:Nat):Vn (f0 cs n p):=by
 unfold f0;split
 .rename_i h e;split
  .exact(O h (List.mem_of_find?_eq_some e)).n
  .exact vn0
 .exact vn0
theorem mE(P:Pr cs ss R bg ks inc nm):(cs.map (·.1)).Nodup/\(ss.map (·.1)).Nodup/\∀h∈ss,h.1∉cs.map (·.1):=by have:=P.nd;rw[qd6,qe8]at this;exact⟨this.1,this.2.1,λh O q=>this.2.2 _ q _ (qb9.mpr ⟨h,O,rfl⟩) rfl⟩
theorem FC(P:Pr cs ss R bg ks inc nm):ao (shS ss) (f0 cs)=tlS ss:=by
 unfold ao shS tlS;rw[qd1];refine qg3 λh O=>?_
 show dl (row (f0 cs) (h.1,h.2.1.toNat))=_;congr 1;refine qn5 λi=>?_
 rcases qi4 i h.2.1.toNat with q|q
 .rw[k9 q,f0_s ((mE P).2.2 h O),qs5,if_pos q]
 .rw[qg4 (by rw[yK];exact q),qs5,if_neg Θ]
theorem FD(P:Pr cs ss R bg ks inc nm):ao (shC cs++shS ss) (f0 cs)=tlC cs++tlS ss:=by
 rw[<- (FC P)];unfold ao;rw[qd6];congr 1;unfold shC tlC;rw[qd1];refine qg3 λh O=>?_
 show dl [.int (f0 cs h.1 0)]=_;rw[f0_c (mE P).1 O]
theorem qc:∀{ss:η Hd},(∀h∈ss,0<h.2.1/\h.2.1<=1000)->(plS ss).length<=1000*ss.length
 |[],_=>by simp[plS]
 |h::ss,O=>by
  have W:=qc (ss:=ss) λq U=>O q (.tail _ U)
  have:=O h (.head _);have e:plS (h::ss)=((qc8 h.2.1.toNat).map λp=>(h.1,p))++plS ss:=rfl;rw[e,qc4,qa6,qt7,qb8];lia
theorem qd{n:Str}{p:Nat}(h:((n,p):Plc)∈plS ss):n∈ss.map (·.1):=by rwa[plS,List.mem_flatMap,qb9]at h;have⟨a,O,q,_,e⟩:=h;exact qb9.mpr ⟨a,O,congrArg Prod.fst e⟩
theorem wt:∀{ss:η Hd},(ss.map (·.1)).Nodup->(plS ss).Nodup
 |[],_=>by simp[plS]
 |h::ss,W=>by have O:=qc6.mp W;have e:plS (h::ss)=((qc8 h.2.1.toNat).map λp=>((h.1,p):Plc))++plS ss:=rfl;rw[e,qe8];refine⟨qh9 _ (λa b h e=>h (congrArg Prod.snd e)) ql8,wt O.2,λa U c hc e=>?_⟩;have⟨p,_,rfl⟩:=qb9.mp U;subst e;exact O.1 (qd hc)
theorem FE(P:Pr cs ss R bg ks inc nm):Nm (shC cs++shS ss) cs ss:=by
 refine⟨P.xr.X.nd,λh O=>?_,λh O=>⟨?_,by have:=P.sv h O;lia⟩,?_,λn p Z=>?_,?_⟩
 .have⟨k,U⟩:=lq O;have:(shC cs)[k]?=ς (h.1,1):=by simp[shC,U]
  exact⟨k,by rw[gL (ai this)];exact this⟩
 .have⟨k,U⟩:=lq O;refine⟨(shC cs).length+k,?_⟩;rw[gR Θ,qg7];simp[shS,U]
 .unfold aJ;rw[qe8];refine⟨?_,wt (mE P).2.1,λa Y c hc e=>?_⟩
  .have:=(mE P).1;have e:cs.map (λh=>((h.1,0):Plc))=(cs.map (·.1)).map λn=>(n,0):=by simp
   rw[e];exact qh9 _ (λa b h e=>h (congrArg Prod.fst e)) this
  .subst e;have⟨h,O,rfl⟩:=qb9.mp Y;have⟨h',W,e⟩:=qb9.mp (qd hc);exact(mE P).2.2 h' W (qb9.mpr ⟨h,O,e.symm⟩)
 .have⟨k,m,h1,h2⟩:=Z;have:=qa4 h1;rcases qh1.mp this with h|h
  .have⟨c,hc,e⟩:=qb9.mp h;cases e;obtain rfl:p=0:=by lia
   exact qh1.mpr (.inl (qb9.mpr ⟨c,hc,rfl⟩))
  .have⟨c,hc,e⟩:=qb9.mp h;cases e;exact qh1.mpr (.inr (List.mem_flatMap.mpr ⟨c,hc,qb9.mpr ⟨p,qd5.mpr h2,rfl⟩⟩))
 .have h1:=qc P.sv;have h2:=P.len;unfold aJ;rw[qc4,qa6];lia
abbrev hs0(cs ss:η Hd)(R:η Rw)(bg:η Str)(ks:η Kp')(inc:η Dt):HS:=⟨fx cs ss R ks inc,[.wake],p0 bg,ξ,ψ,[],ξ,0⟩
theorem wu(P:Pr cs ss R bg ks inc nm):∃B σ,F19 [.ref 0,.g (pgm cs ss R),.g (cod bg ks),.g (.e inc)] [.ins 3 []]=ς (.g .non,B)/\At σ (hz (shC cs++shS ss) (hs0 cs ss R bg ks inc) ψ (f0 cs)) B/\σ 0=0:=by unfold hz;rw[(FD P)];exact wp P.c0 P.s0 P.len (by have:=P.bn.2;lia) P.rl.2 P.nd (λh O=>by have:=P.sv h O;lia) P.kn
theorem DD(P:Pr cs ss R bg ks inc nm):∃L:CH,In (shC cs++shS ss) 0 (hs0 cs ss R bg ks inc) ψ (f0 cs) L/\∀(fs:FM (η CV))(δ:Sl),fs δ []=ς ([.g (pgm cs ss R),.g (cod bg ks),.g (.e inc)],[])->eMk 3 4 F19 fs δ []=ς (.ref 0,L):=by
 have⟨B,σ,W,k2,O⟩:=wu P;have U:0<B.length:=by have:=k2.lt (i:=0) n9;lia
 refine⟨B.map (rnO (([]:CH).length + ·)),⟨λi=>0+σ i,At.comp (pA (ch:=[])) k2,by show 0+σ 0=0;rw[O]⟩,λfs δ h=>?_⟩;exact gG (F:=F19) (c:=3) (n:=4) (ch:=[]) (ds:=[pgm cs ss R,cod bg ks,.e inc]) (ah _) h rfl W U
theorem FG(P:Pr cs ss R bg ks inc nm):Ok (fx cs ss R ks inc) R.length (shC cs++shS ss) 10 (hs0 cs ss R bg ks inc) (f0 cs):=by
 have hb:=P.bn;refine⟨rfl,λb=>?_,⟨P.rl.1,Int.le_refl 0,?_,λb hb=>?_,λt O=>(by cases O)⟩,⟨Ξ,Ξ⟩,vn0,f0_n P.cv,rfl⟩
 .cases b
  .exact⟨by simp[p0];lia,by simp[p0]⟩
  .exact⟨by simp[p0],by simp[p0]⟩
 .show((bg.map λs=>((s,0):Bx)).map (·.1)).Nodup;rw[qd1];simpa[qb4] using hb.1
 .have⟨s,_,rfl⟩:=qb9.mp (show b∈bg.map λs=>((s,0):Bx)from hb);exact vn0
end
noncomputable def ltt:Str:="abcdefghijklmnopqrstuvwxyz"
theorem zg:ltt.length=26:=χ
noncomputable def sgn(i:Int):Nat:=ltt.cps.toList.getD i.toNat 0
theorem zh:∀i<26,∀j<26,ltt.cps.toList.getD i 0=ltt.cps.toList.getD j 0->i=j:=χ
theorem ww{i:Int}(W:0<=i)(h1:i<26):ixD (.str ltt) (.int i)=ς (.str ⟨#[sgn i]⟩):=by
 have hl:ltt.cps.toList.length=26:=by decide +kernel
 have:gIx (.str ltt) (.int i)=ς (.f (.str ⟨#[sgn i]⟩)):=by
  have e:gIx (.str ltt) (.int i)=(atI ltt.cps.toList i).map λc=>.f (.str ⟨#[c]⟩):=by have U:ltt.length<=qa5:=pJ (by rw[zg];decide);rwa[gIx,U,if_true]
  have O:atI ltt.cps.toList i=ς (sgn i):=by unfold atI ixN;rw[if_pos W,hl,if_pos Θ];rwa[qa0];unfold sgn;rw[qb0,gQ Θ];rfl
  rw[e,O];rfl
 show(match (ψ:ζ (ζ Dt))with|some r=>r|none=>match gIx (.str ltt) (.int i)with|some (.f y)=>ς y|_=>ψ)=_;rw[this]
theorem zi(x y:Str):(x++y).length=x.length+y.length:=by show(x.cps++y.cps).size=_;rw[Array.size_append];rfl
theorem zj(x y:Str):(x++y).cps.toList=x.cps.toList++y.cps.toList:=by show(x.cps++y.cps).toList=_;simp
theorem addS{x:Str}(h:x.length+y.length<=1000000):oAdd.g (.str x) (.str y)=ς (.f (.str (x++y))):=by show orO eG ip _ _=_;unfold orO;rw[Dk (pJ h)]
theorem mF{x:Str}{lo hi:ζ Int}(h:x.length<=1000):∃y,gSl (.str x) lo hi=ς (.f (.str y))/\y.length<=x.length:=⟨_,if_pos (pJ Θ),Txt.slice_le x lo hi⟩
section
variable{ch:CH}
theorem nm_0(c x:Int)(Y:0<=x)(h1:x<10):∃g:Nat,eIx (eV 2) (e2 .v oMod.g (e2 .v oAdd.g (e2 .v oDiv.g (eV 1) (eK (.int 37))) (e2 .v oMul.g (e2 .v oMul.g (eK (.int 11)) (eV 0)) (e2 .v oMod.g (eV 1) (eK (.int 2))))) (eK (.int 26))) [ς (I x),ς (I c),ς (.g (.str ltt))] ch=ς (.g (.str ⟨#[g]⟩),ch):=by have W:cF 11 x=θ:=eF Θ Θ;have O:cF (11*x) (c%2)=θ:=eF Θ Θ;have U:=ww (i:=(c/37+11*x*(c%2))%26) (qg5 _ Ω) (qf9 _ Ω);refine⟨sgn ((c/37+11*x*(c%2))%26),?_⟩;simp! only[];dsimp! [oMod,eI,oDiv,gm,oMul,hJ,W,O,U]
abbrev nE0:Fg:=eIx (eV 2) (e2 .v oMod.g (e2 .v oAdd.g (e2 .v oDiv.g (eV 1) (eK (.int 37))) (e2 .v oMul.g (e2 .v oMul.g (eK (.int 11)) (eV 0)) (e2 .v oMod.g (eV 1) (eK (.int 2))))) (eK (.int 26)))
abbrev nE1:Fg:=e2 .v oAdd.g (e2 .v oAdd.g (eSl .v (eV 3) ψ (ς (eV 1))) (eIx (eV 4) (e2 .v oMod.g (e2 .v oAdd.g (e2 .v oDiv.g (eV 2) (eK (.int 42))) (e2 .v oMul.g (eK (.int 5)) (eV 0))) (eK (.int 26))))) (eSl .v (eV 3) (ς (eV 1)) ψ)
theorem nm_c(c:Int)(n:Nat)(hn6:n<6):∃gs:η Nat,gs.length=n/\aE (bnd (.one 0)) tYs nE0 [ψ,ς (I c),ς (.g (.str ltt))] (ay 0 n) ch=ς ((sgD gs).map .g,ch):=by
 have⟨ds,Y,O,W⟩:=px (pt:=.one 0) (ft:=tYs) (fe:=nE0) (δ:=[ψ,ς (I c),ς (.g (.str ltt))]) (ch:=ch) (f:=λi:Nat=>.int (0+(i:Int))) (P:=λd=>∃g:Nat,d=.str ⟨#[g]⟩) (l:=qc8 n) λi hi=>by have⟨g,hg⟩:=nm_0 (ch:=ch) c (0+(i:Int)) Θ (by have:=qd5.mp hi;lia);exact⟨_,_,rfl,rfl,hg,g,rfl⟩
 obtain⟨gs,rfl,U⟩:∃gs:η Nat,ds=sgD gs/\gs.length=ds.length:=by
  clear Y W;induction ds with
  |nil=>exact⟨[],rfl,rfl⟩
  |cons d ds Z=>
   have⟨g,rfl⟩:=O d (.head _);have⟨gs,rfl,h⟩:=Z λd hd=>O d (.tail _ hd)
   exact⟨g::gs,rfl,by simp[h]⟩
 exact⟨gs,by rw[U,W];simp,Y⟩
theorem nm_1(c p:Int){m y:Str}(hy:y.length<=6)(hz:z.length<=6)(Y:gSl (.str m) ψ (ς p)=ς (.f (.str y)))(ez:gSl (.str m) (ς p) ψ=ς (.f (.str z)))(x:Int)(h0:0<=x)(h1:x<12):nE1 [ς (I x),ς (I p),ς (I c),ς (.g (.str m)),ς (.g (.str ltt))] ch=ς (.g (.str (y++⟨#[sgn ((c/42+5*x)%26)]⟩++z)),ch):=by
 have m1:cF 5 x=θ:=eF Θ Θ;have O:=ww (i:=(c/42+5*x)%26) Θ Θ;obtain⟨g,U⟩:∃g:Str,g=⟨#[sgn ((c/42+5*x)%26)]⟩:=⟨_,rfl⟩;have W:g.length=1:=by rw[U];rfl
 rw[<- U]at O ⊢;have a1:=addS (x:=y) (y:=g) Θ;have Z:=addS (x:=y++g) (y:=z) (by rw[zi];lia);have x1:eSl .v (eV 3) ψ (ς (eV 1)) [ς (I x),ς (I p),ς (I c),ς (.g (.str m)),ς (.g (.str ltt))] ch=ς (.g (.str y),ch):=by simp[eSl,fOp,eV,lent,bR,vw,Y,fin,T.d]
 have x3:eSl .v (eV 3) (ς (eV 1)) ψ [ς (I x),ς (I p),ς (I c),ς (.g (.str m)),ς (.g (.str ltt))] ch=ς (.g (.str z),ch):=by simp[eSl,fOp,eV,lent,bR,vw,ez,fin,T.d]
 have x2:eIx (eV 4) (e2 .v oMod.g (e2 .v oAdd.g (e2 .v oDiv.g (eV 2) (eK (.int 42))) (e2 .v oMul.g (eK (.int 5)) (eV 0))) (eK (.int 26))) [ς (I x),ς (I p),ς (I c),ς (.g (.str m)),ς (.g (.str ltt))] ch=ς (.g (.str g),ch):=by simp! only[];dsimp! [oMod,eI,oDiv,gm,oMul,hJ,m1,O]
 exact pz (pz x1 x2 rfl rfl a1) x3 rfl rfl Z
theorem FH{c:Int}:((qc8 12).map λi:Nat=>y++⟨#[sgn ((c/42+5*(i:Int))%26)]⟩++z).Nodup:=by
 rw[List.nodup_iff_pairwise_ne,List.pairwise_map];refine List.Pairwise.imp_of_mem ?_ ql8;intro i j hi O U h;have hi:=qd5.mp hi;have O:=qd5.mp O;have e:=congrArg (λs:Str=>s.cps.toList) h;rwa[zj]at e;have e:=List.append_cancel_left (List.append_cancel_right e);have e:sgn ((c/42+5*(i:Int))%26)=sgn ((c/42+5*(j:Int))%26):=‹e›
 have:=zh _ Θ _ Θ e;omega
theorem nm_l{n:Nat}{g:Nat->Dt}(hi:fi δ ch=ς (ay 0 n,ch))(O:gC src δ=δ0)(U:n<=1000)(h:aE (bnd (.one 0)) tYs fe δ0 (ay 0 n) ch=ς ((qc8 n).map λi=>.g (g i),ch)):eCo .v src fi (bnd (.one 0)) tYs fe δ ch=ς (.g (.e ((qc8 n).map g)),ch):=by unfold eCo;rw[hi,qa0,O];dsimp only;rw[h,qa0];dsimp only;rw[if_pos (by rw[qa6,qt7,qc1];lia),bZ];rfl
theorem FI{c N:Int}(O:c%6=N):iS 3 (e2 .v oMod.g (eV 0) (eK (.int 6))) [ς (I c),ς (I 12),ς (.g (.str ltt)),ψ,ψ,ψ] ch=ς (.nx [ς (I c),ς (I 12),ς (.g (.str ltt)),ς (I N),ψ,ψ] ch):=by simp! only[];simp! [oMod,eI,O]
theorem FJ{c N p:Int}(O:0<=N)(hp:p=c/6%(N+1)):iS 4 (e2 .v oMod.g (e2 .v oDiv.g (eV 0) (eK (.int 6))) (e2 .v oAdd.g (eV 3) (eK (.int 1)))) [ς (I c),ς (I 12),ς (.g (.str ltt)),ς (I N),ψ,ψ] ch=ς (.nx [ς (I c),ς (I 12),ς (.g (.str ltt)),ς (I N),ς (I p),ψ] ch):=by simp! only[];simp! [oMod,eI,oDiv,gm,hp,show 0<N+1 by lia]
theorem FK{c p:Int}{n:Nat}{gs:η Nat}{m:Str}(Y:n<6)(O:gs.length=n)(hm:m=⟨gs.toArray⟩)(U:aE (bnd (.one 0)) tYs nE0 [ψ,ς (I c),ς (.g (.str ltt))] (ay 0 n) ch=ς ((sgD gs).map .g,ch)):eMt .v mJoin.g (eK (.str "")) (aCn (eCo .v [ψ,ς 0,ς 2] (iR 1 (aCn (eV 3) aNl)) (bnd (.one 0)) tYs nE0) aNl) [ς (I c),ς (I 12),ς (.g (.str ltt)),ς (I n),ς (I p),ψ] ch=ς (.g (.str m),ch):=by
 have W:mJoin.g (.str "") [.e (sgD gs)]=ς (.f (.str m)):=by rw[hm];exact vJ (cs:=gs) Θ
 exact C4 rfl (b9 (dY (eT rfl (aR Θ)) rfl U (by rw[sgD,qa6,qc1];lia))) W
theorem mG(c:Int):∃xs:η Str,F0 [I c,I 12] ch=ς (.g (.e (xs.map .str)),ch)/\xs.length=12/\xs.Nodup:=by
 have b0:=qg5 c (show(6:Int)≠0 by decide);have b1:=qf9 c (show(0:Int)<6 by decide);have⟨n,hn⟩:=qf4 b0;have O:n<6:=by lia
 obtain⟨p,hp⟩:∃p,p=c/6%((n:Int)+1):=⟨_,rfl⟩;have⟨gs,U,e1⟩:=nm_c (ch:=ch) c n O;obtain⟨m,W⟩:∃m:Str,m=⟨gs.toArray⟩:=⟨_,rfl⟩;have hml:m.length<=6:=by rw[W];show gs.toArray.size<=6;simp;lia
 have⟨y,ey,hy⟩:=mF (x:=m) (lo:=ψ) (hi:=ς p) Θ;have⟨z,ez,hz⟩:=mF (x:=m) (lo:=ς p) (hi:=ψ) Θ;have Y:=bH (pt:=.one 0) (ft:=tYs) (fe:=nE1) (δ:=[ψ,ς (I p),ς (I c),ς (.g (.str m)),ς (.g (.str ltt))]) (ch:=ch) (f:=λi:Nat=>.int (0+(i:Int))) (g:=λi:Nat=>.str (y++⟨#[sgn ((c/42+5*(i:Int))%26)]⟩++z)) (l:=qc8 12) λi hi=>⟨[ς (I (0+(i:Int))),ς (I p),ς (I c),ς (.g (.str m)),ς (.g (.str ltt))],rfl,rfl,by have h:=nm_1 (ch:=ch) c p Θ Θ ey ez (0+(i:Int)) Θ (by have:=qd5.mp hi;lia);rw[qm5]at h ⊢;exact h⟩
 have s1:=FI (ch:=ch) hn;have Z:=FJ (ch:=ch) (c:=c) (N:=n) Θ hp;have s3:=FK (p:=p) O U W e1;have s4:eCo .v [ψ,ς 4,ς 0,ς 5,ς 2] (iR 1 (aCn (eV 1) aNl)) (bnd (.one 0)) tYs nE1 [ς (I c),ς (I 12),ς (.g (.str ltt)),ς (I n),ς (I p),ς (.g (.str m))] ch=ς (.g (.e ((qc8 12).map λi:Nat=>.str (y++⟨#[sgn ((c/42+5*(i:Int))%26)]⟩++z))),ch):=nm_l (eT (j:=12) rfl (aR Θ)) rfl Θ Y;refine⟨(qc8 12).map λi:Nat=>y++⟨#[sgn ((c/42+5*(i:Int))%26)]⟩++z,?_,Ξ,FH⟩;rw[qd1,q0];exact fX (aF (δ':=[ς (I c),ς (I 12),ς (.g (.str ltt)),ψ,ψ,ψ]) (ch1:=ch) rfl (aF s1 (aF Z (aF (dX s3 rfl) (jI (jH s4 rfl))))))
end
theorem oo(W:xs.Nodup):∀{is:η Nat},is.Nodup->(∀i∈is,i<xs.length)->(is.map λi=>xs.getD i za1).Nodup
 |[],_,_=>by simp
 |i::is,h,hl=>by
  have h':=qc6.mp h;rw[qa3,qc6];refine⟨λY=>?_,oo W h'.2 λj U=>hl j (.tail _ U)⟩;have⟨j,U,e⟩:=qb9.mp Y;have hi:=hl i (.head _);have O:=hl j (.tail _ U);rwa[qb0,qr4 hi,qr4 O,Option.getD_some]at e;have hp:=List.pairwise_iff_getElem.mp W;rcases Nat.lt_trichotomy i j with q|q|q
  .exact hp i j hi O q e.symm
  .exact h'.1 (by rw[q];exact U)
  .exact hp j i O hi q e
section
variable{ch:CH}
theorem ixS{k:Nat}(h:k<xs.length):ixD (.e (xs.map .str)) (.int k)=ς (.str (xs.getD k za1)):=by rw[fj h,qb0,gQ h];rfl
theorem ixI{xs:η Int}{k:Nat}(h:k<xs.length):ixD (.e (xs.map .int)) (.int k)=ς (.int (xs.getD k 0)):=by rw[fj h,qb0,gQ h];rfl
theorem Aj{xs:η Int}(O:∀v∈xs,Sm' v){k:Nat}(h:k<xs.length):Sm' (xs.getD k 0):=by rw[qb0,gQ h];exact O _ (ql7 h)
structure Wd(bx:List Str)(cs ss:List Hd)(inc:List Int):Prop where
 b4:bx.length=4
 c0:0<cs.length/\cs.length<=3
 s0:0<ss.length/\ss.length<=2
 nd:((cs++ss).map (·.1)).Nodup
 cv:∀h∈cs,Vi (.int h.2.1)
 sv:∀h∈ss,0<h.2.1/\h.2.1<=8
 inc:∀i∈inc,Vi (.int i)
abbrev wdD(bx:η Str)(cs ss:η Hd)(inc:η Int):Dt:=.t [.e (bx.map .str),.e (cs.map Hd.d),.e (ss.map Hd.d),.e (inc.map .int)]
abbrev cE:Fg:=eTu (aCn (eIx (eV 1) (eV 0)) (aCn (eCa 1 F3 (aCn (eIx (eV 2) (eV 0)) aNl)) (aCn (e2 .v oEq.g (e2 .v oMod.g (e2 .v oDiv.g (eIx (eV 2) (eV 0)) (eK (.int 5))) (eK (.int 2))) (eK (.int 0))) aNl)))
abbrev sE:Fg:=eTu (aCn (eIx (eV 1) (e2 .v oAdd.g (eK (.int 4)) (eV 0))) (aCn (e2 .v oAdd.g (eK (.int 1)) (e2 .v oMod.g (eIx (eV 2) (e2 .v oAdd.g (eK (.int 4)) (eV 0))) (eK (.int 8)))) (aCn (e2 .v oEq.g (e2 .v oMod.g (e2 .v oDiv.g (eIx (eV 2) (e2 .v oAdd.g (eK (.int 4)) (eV 0))) (eK (.int 8))) (eK (.int 2))) (eK (.int 0))) aNl)))
theorem FL{xs vs:Dt}{x v:Int}{s:Str}(h1:ixD xs (.int x)=ς (.str s))(h2:ixD vs (.int x)=ς (.int v))(t1:∃l,xs=.e l)(t2:∃l,vs=.e l):∃h:Hd,cE [ς (I x),ς (.g xs),ς (.g vs)] ch=ς (.g h.d,ch)/\Vi (.int h.2.1)/\h.1=s:=by have⟨a,rfl⟩:=t1;have⟨b,rfl⟩:=t2;have⟨w,U,O⟩:=dm (ch:=ch) v;refine⟨(s,w,decide (v/5%2=0)),?_,U,rfl⟩;simp! only[];dsimp! [h1,h2,O,oMod,eI,oDiv,gm,Hd.d]
theorem FN{xs vs:Dt}{x v:Int}{s:Str}(h1:ixD xs (.int (4+x))=ς (.str s))(h2:ixD vs (.int (4+x))=ς (.int v))(t1:∃l,xs=.e l)(t2:∃l,vs=.e l):∃h:Hd,sE [ς (I x),ς (.g xs),ς (.g vs)] ch=ς (.g h.d,ch)/\(0<h.2.1/\h.2.1<=8)/\h.1=s:=by have⟨a,rfl⟩:=t1;have⟨b,rfl⟩:=t2;refine⟨(s,1+v%8,decide (v/8%2=0)),?_,by show 0<1+v%8/\1+v%8<=8;lia,rfl⟩;simp! only[];dsimp! [h1,h2,oMod,eI,oDiv,gm,Hd.d]
theorem qe{α:Type}(f:α->Dt)(l:η α)(a b:Nat)(hb:b<=l.length)(O:a<=b):gSl (.e (l.map f)) (ς (a:Int)) (ς (b:Int))=ς (.e (((l.drop a).take (b-a)).map f)):=by show ς (T.e (ki (l.map f) (ς (a:Int)) (ς (b:Int))))=_;unfold ki;rw[HT.FW,HT.FW,qa6,qw6 hb,qw6 (show a<=l.length by lia),ze7,List.map_drop]
theorem fC{n:Nat}{F:Fd}{fs:FM (η CV)}{c:CV}{ch2:CH}(hs:fs δ ch=ς (cs,ch))(U:cs.length=n/\cs.all CV.old=θ)(O:F cs ch=ς (c,ch2)):eCa n F fs δ ch=ς (c,ch2):=by unfold eCa kCa;rw[hs,qa0];dsimp only;rw[if_pos U];exact O
theorem bK{f:Fg}{fs:FM (η CV)}{c:CV}(h:f δ ch=ς (c,ch))(hs:fs δ ch=ς (cs,ch)):aCn f fs δ ch=ς (c::cs,ch):=by unfold aCn;rw[h,qa0];dsimp only;rw[hs];rfl
theorem FO{f:Fg}{d:Dt}(h:f δ ch=ς (.g d,ch))(O:itD d=ς l):iE f δ ch=ς (l,ch):=by unfold iE;rw[h,qa0];dsimp only;rw[O];rfl
theorem wx(ns:η Int):∃bx cs ss inc,Wd bx cs ss inc/\F4 [.g (.e (ns.map .int))] ch=ς (.g (wdD bx cs ss inc),ch):=by
 have⟨c0,g0⟩:=dB (ch:=ch) ns 0;have⟨c1,g1⟩:=dB (ch:=ch) ns 1;have⟨c2,g2⟩:=dB (ch:=ch) ns 2;have⟨xs,Z,hx2,hx3⟩:=mG (ch:=ch) c0;have⟨vs,hv1,hv2,hv3⟩:=ci (ch:=ch) c1 12 Θ;have sm:=λk (h:k<12)=>Aj hv3 (k:=k) Θ
 obtain⟨a,ha⟩:∃a:Nat,(a:Int)=1+vs.getD 6 0%3:=⟨(1+vs.getD 6 0%3).toNat,Θ⟩;obtain⟨b,hb⟩:∃b:Nat,(b:Int)=1+vs.getD 7 0%2:=⟨(1+vs.getD 7 0%2).toNat,Θ⟩;obtain⟨d,hd⟩:∃d:Nat,(d:Int)=vs.getD 8 0%7:=⟨(vs.getD 8 0%7).toNat,Θ⟩;have⟨ls,hl1,hl2,hl3⟩:=ci (ch:=ch) c2 d Θ
 have⟨cs,e1,e2',e3⟩:=cY (pt:=.one 0) (ft:=tYs) (fe:=cE) (δ:=[ψ,ς (.g (.e (xs.map .str))),ς (.g (.e (vs.map .int)))]) (ch:=ch) (f:=λi:Nat=>.int (0+(i:Int))) (g:=Hd.d) (h:=λh:Hd=>h.1) (h':=λi=>xs.getD i za1) (Q:=λh:Hd=>Vi (.int h.2.1)) (l:=qc8 a) λi hi=>by have hi:=qd5.mp hi;have⟨h,k1,k2,k3⟩:=FL (ch:=ch) (xs:=.e (xs.map .str)) (vs:=.e (vs.map .int)) (x:=0+(i:Int)) (by rw[qm5];exact ixS Θ) (by rw[qm5];exact ixI Θ) ⟨_,rfl⟩ ⟨_,rfl⟩;exact⟨_,h,rfl,rfl,k1,k2,k3⟩
 have⟨ss,e4,e5,e6⟩:=cY (pt:=.one 0) (ft:=tYs) (fe:=sE) (δ:=[ψ,ς (.g (.e (xs.map .str))),ς (.g (.e (vs.map .int)))]) (ch:=ch) (f:=λi:Nat=>.int (0+(i:Int))) (g:=Hd.d) (h:=λh:Hd=>h.1) (h':=λi=>xs.getD (4+i) za1) (Q:=λh:Hd=>0<h.2.1/\h.2.1<=8) (l:=qc8 b) λi hi=>by
  have hi:=qd5.mp hi;have e:(4:Int)+(0+(i:Int))=((4+i:Nat):Int):=by push_cast;lia
  have⟨h,k1,k2,k3⟩:=FN (ch:=ch) (xs:=.e (xs.map .str)) (vs:=.e (vs.map .int)) (x:=0+(i:Int)) (by rw[e];exact ixS Θ) (by rw[e];exact ixI Θ) ⟨_,rfl⟩ ⟨_,rfl⟩;exact⟨_,h,rfl,rfl,k1,k2,k3⟩
 have⟨inc,e7,e8,e9⟩:=cY (pt:=.one 0) (ft:=tYs) (fe:=eCa 1 F3 (aCn (eV 0) aNl)) (δ:=[ψ]) (ch:=ch) (f:=Dt.int) (g:=Dt.int) (h:=λ_:Int=>()) (h':=λ_=>()) (Q:=λi=>Vi (.int i)) (l:=ls) λi hi=>by have⟨w,hw,h3⟩:=dm (ch:=ch) i;exact⟨[ς (I i)],w,rfl,rfl,fC (cs:=[I i]) rfl ⟨rfl,rfl⟩ h3,hw,rfl⟩
 have hcl:cs.length=a:=by have:=congrArg qj0 e3;simpa using this
 have hsl:ss.length=b:=by have:=congrArg qj0 e6;simpa using this
 have hil:inc.length=d:=by have:=congrArg qj0 e9;simpa[hl2] using this
 refine⟨(xs.drop 6).take 4,cs,ss,inc,⟨by simp[hx2],Θ,Θ,?_,e2',e5,e8⟩,?_⟩
 .rw[qd6,e3,e6];have:(qc8 a).map (λi=>xs.getD i za1)++(qc8 b).map (λi=>xs.getD (4+i) za1)=(qc8 a++(qc8 b).map (4 + ·)).map λi=>xs.getD i za1:=by simp[qb4]
  rw[this];refine oo hx3 ?_ λi hi=>?_
  .rw[qe8];refine⟨ql8,?_,λi hi j hj e=>?_⟩
   .exact qh9 _ (λa b h q=>h Θ) ql8
   .have⟨k,_,rfl⟩:=qb9.mp hj;have:=qd5.mp hi;lia
  .rcases qh1.mp hi with hi|hi
   .have:=qd5.mp hi;lia
   .have⟨k,hk,rfl⟩:=qb9.mp hi;have:=qd5.mp hk;lia
 .obtain⟨X,hX⟩:∃X:Dt,X=.e (xs.map .str):=⟨_,rfl⟩;obtain⟨V,hV⟩:∃V:Dt,V=.e (vs.map .int):=⟨_,rfl⟩;have x6:ixD V (.int 6)=ς (.int (vs.getD 6 0)):=by rw[hV];exact ixI (k:=6) Θ
  have x7:ixD V (.int 7)=ς (.int (vs.getD 7 0)):=by rw[hV];exact ixI (k:=7) Θ
  have x8:ixD V (.int 8)=ς (.int (vs.getD 8 0)):=by rw[hV];exact ixI (k:=8) Θ
  have vV:∀d,ixV ch (.g V) d=(ixD V d).map .g:=λd=>rfl
  have W:gSl X (ς 6) (ς 10)=ς (.e (((xs.drop 6).take 4).map .str)):=by rw[hX];exact qe Dt.str xs 6 10 Θ Θ
  rw[<- hX]at Z e1 e4;rw[<- hV]at hv1 e1 e4;obtain⟨C,hC⟩:∃C:Dt,C=.e (cs.map Hd.d):=⟨_,rfl⟩;obtain⟨D,hD⟩:∃D:Dt,D=.e (ss.map Hd.d):=⟨_,rfl⟩;obtain⟨U,hE⟩:∃U:Dt,U=.e (inc.map .int):=⟨_,rfl⟩;obtain⟨Y,hY⟩:∃Y:Dt,Y=.e (ns.map .int):=⟨_,rfl⟩;rw[<- hY]at g0 g1 g2 ⊢;have s1:=dX (i:=1) (δ:=[ς (.g Y),ψ,ψ,ψ,ψ,ψ]) (fC (n:=2) (F:=F0) (fs:=aCn (eCa 2 F1 (aCn (eV 0) (aCn (eK (.int 0)) aNl))) (aCn (eK (.int 12)) aNl)) (bK (fC (cs:=[.g Y,I 0]) rfl ⟨rfl,rfl⟩ g0) (bK (c:=I 12) rfl rfl)) ⟨rfl,rfl⟩ Z) rfl;have s2:=dX (i:=2) (δ:=[ς (.g Y),ς (.g X),ψ,ψ,ψ,ψ]) (fC (n:=2) (F:=F2) (fs:=aCn (eCa 2 F1 (aCn (eV 0) (aCn (eK (.int 1)) aNl))) (aCn (eK (.int 12)) aNl)) (bK (fC (cs:=[.g Y,I 1]) rfl ⟨rfl,rfl⟩ g1) (bK (c:=I 12) rfl rfl)) ⟨rfl,rfl⟩ hv1) rfl
  have i3:e2 .v oAdd.g (eK (.int 1)) (e2 .v oMod.g (eIx (eV 2) (eK (.int 6))) (eK (.int 3))) [ς (.g Y),ς (.g X),ς (.g V),ψ,ψ,ψ] ch=ς (I a,ch):=by rw[ha];simp! only[];dsimp! [vV,x6,oMod,eI]
  have s3:=dX (i:=3) (δ:=[ς (.g Y),ς (.g X),ς (.g V),ψ,ψ,ψ]) (dY (src:=[ψ,ς 1,ς 2]) (eT (b9 i3) (aR Θ)) rfl e1 (by rw[qa6,qc1];lia)) rfl
  have i4:e2 .v oAdd.g (eK (.int 1)) (e2 .v oMod.g (eIx (eV 2) (eK (.int 7))) (eK (.int 2))) [ς (.g Y),ς (.g X),ς (.g V),ς (.g C),ψ,ψ] ch=ς (I b,ch):=by rw[hb];simp! only[];dsimp! [vV,x7,oMod,eI]
  have s4:=dX (i:=4) (δ:=[ς (.g Y),ς (.g X),ς (.g V),ς (.g C),ψ,ψ]) (dY (src:=[ψ,ς 1,ς 2]) (eT (b9 i4) (aR Θ)) rfl e4 (by rw[qa6,qc1];lia)) rfl
  have i5:e2 .v oMod.g (eIx (eV 2) (eK (.int 8))) (eK (.int 7)) [ς (.g Y),ς (.g X),ς (.g V),ς (.g C),ς (.g D),ψ] ch=ς (I d,ch):=by rw[hd];simp! only[];dsimp! [vV,x8,oMod,eI]
  have j5:iE (eCa 2 F2 (aCn (eCa 2 F1 (aCn (eV 0) (aCn (eK (.int 2)) aNl))) (aCn (e2 .v oMod.g (eIx (eV 2) (eK (.int 8))) (eK (.int 7))) aNl))) [ς (.g Y),ς (.g X),ς (.g V),ς (.g C),ς (.g D),ψ] ch=ς (ls.map .int,ch):=by exact FO (fC (F:=F2) (cs:=[I c2,I d]) (bK (fC (cs:=[.g Y,I 2]) rfl ⟨rfl,rfl⟩ g2) (b9 i5)) ⟨rfl,rfl⟩ hl1) rfl
  have s5:=dX (i:=5) (δ:=[ς (.g Y),ς (.g X),ς (.g V),ς (.g C),ς (.g D),ψ]) (dY (src:=[ψ]) j5 rfl e7 (by rw[qa6,qc1];lia)) rfl
  have s6:eSl .v (eV 1) (ς (eK (.int 6))) (ς (eK (.int 10))) [ς (.g Y),ς (.g X),ς (.g V),ς (.g C),ς (.g D),ς (.g U)] ch=ς (.g (.e (((xs.drop 6).take 4).map .str)),ch):=by simp[eSl,fOp,eV,eK,lent,bR,vw,W,fin,T.d]
  rw[q4];rw[<- hC]at s3;rw[<- hD]at s4;rw[<- hE]at s5
  have s7:eTu (aCn (eSl .v (eV 1) (ς (eK (.int 6))) (ς (eK (.int 10)))) (aCn (eV 3) (aCn (eV 4) (aCn (eV 5) aNl)))) [ς (.g Y),ς (.g X),ς (.g V),ς (.g C),ς (.g D),ς (.g U)] ch=ς (.g (.t [.e (((xs.drop 6).take 4).map .str),C,D,U]),ch):=by unfold eTu;rw[bK s6 (bK (c:=.g C) rfl (bK (c:=.g D) rfl (bK (c:=.g U) rfl rfl)))];simp[dats,qc1]
  rw[hC,hD,hE]at s7;have O:=jI (g2:=gr) (jH s7 rfl);rw[<- hC,<- hD,<- hE]at O;have:=fX (n:=6) (cs:=[.g Y]) (aF s1 (aF s2 (aF s3 (aF s4 (aF s5 O)))));rw[this,hC,hD,hE]
end
variable{bx:η Str}{ss:η Hd}{inc:η Int}
section
variable{ch:CH}
theorem DE{V:Dt}{U O w n:Int}(h4:ixV ch (.g V) (.int 4)=ς (I U))(W:ixV ch (.g V) (.int 5)=ς (I O))(Y:0<=w)(hn:w+1<n):∃t,0<=t/\t<n/\F6 [.g V,I w,I n] ch=ς (I t,ch):=by
 by_cases h:U%6=0
 .exact⟨O%n,qg5 _ Θ,qf9 _ Θ,xR (.c 0 h4 (.t 1 (eqI (decide_eq_true h)) (.c 0 W (.t 0 (mdI (v:=O) rfl (show 0<n by lia)) .nil))))⟩
 .have Z:=qg5 O (show n-1-w≠0 by lia);have b1:=qf9 O (show 0<n-1-w by lia);exact⟨w+1+O%(n-1-w),Θ,Θ,xR (.c 0 h4 (.t 1 (eqI (decide_eq_false h)) (.c 0 W (.t 2 (mdI (v:=O) rfl (show 0<n-1-w by lia)) .nil))))⟩
theorem zk{i:Int}(W:0<=i)(h1:i<8):∃s,ixD (.str "+-*<=&|^") (.int i)=ς (.str s):=by
 have U:(qd0 "+-*<=&|^").length=8:=by decide +kernel
 have⟨g,Y,_⟩:=yM (x:="+-*<=&|^") (i:=i) (by rw[U];decide) W (by rw[U];exact h1);have O:gIx (.str "+-*<=&|^") (.int i)=ς (.f (.str ⟨#[g]⟩)):=Y;refine⟨⟨#[g]⟩,?_⟩;show(match (ψ:ζ (ζ Dt))with|some r=>r|none=>match gIx (.str "+-*<=&|^") (.int i)with|some (.f y)=>ς y|_=>ψ)=_;rw[O]
def RwD(cs ss:η Hd)(w n:Int)(r:Rw):Prop:=RwP cs ss r/\∀p,(match r with
 |.go t=>p=t
 |.ife _ t=>p=t\/p=w+1
 |.fin _=>False
 |_=>p=w+1)->0<=p/\p<n
theorem oq{α:Type}{f:α->Dt}{l:η α}(hl:0<l.length)(v:Int):∃a∈l,ixV ch (.g (.e (l.map f))) (.int (v%(l.length:Int)))=ς (.g (f a)):=by
 have U:=qg5 v (show(l.length:Int)≠0 by lia);have b1:=qf9 v (show(0:Int)<l.length by lia);have⟨k,W⟩:=qf4 U;have O:k<l.length:=by lia
 refine⟨l[k],ql7 O,?_⟩;show(ixD (.e (l.map f)) (.int (v%(l.length:Int)))).map CV.g=_;rw[W,fj O];rfl
theorem zl{cs:η Hd}(W:Wd bx cs ss inc)(cell w n:Int)(hw:0<=w)(hn:w+1<n):∃r,RwD cs ss w n r/\F7 [I cell,I w,I n,.g (wdD bx cs ss inc)] ch=ς (.g r.d,ch):=by
 have⟨vs,hv1,hv2,hv3⟩:=ci (ch:=ch) cell 8 Θ;obtain⟨V,hV⟩:∃V:Dt,V=.e (vs.map .int):=⟨_,rfl⟩
 have xv:∀k:Nat,k<8->ixV ch (.g V) (.int k)=ς (I (vs.getD k 0)):=λk hk=>by rw[hV];show(ixD _ _).map CV.g=_;rw[ixI Θ];rfl
 rw[<- hV]at hv1;have sm:=λk (h:k<8)=>Aj hv3 (k:=k) Θ
 have x0:ixV ch (.g V) (.int 0)=ς (I (vs.getD 0 0)):=xv 0 Θ;have x1:ixV ch (.g V) (.int 1)=ς (I (vs.getD 1 0)):=xv 1 Θ;have x2:ixV ch (.g V) (.int 2)=ς (I (vs.getD 2 0)):=xv 2 Θ;have x3:ixV ch (.g V) (.int 3)=ς (I (vs.getD 3 0)):=xv 3 Θ;have x6:ixV ch (.g V) (.int 6)=ς (I (vs.getD 6 0)):=xv 6 Θ;have x4:ixV ch (.g V) (.int 4)=ς (I (vs.getD 4 0)):=xv 4 Θ;have x5:ixV ch (.g V) (.int 5)=ς (I (vs.getD 5 0)):=xv 5 Θ;have x7:ixV ch (.g V) (.int 7)=ς (I (vs.getD 7 0)):=xv 7 Θ;have sm0:=(sm 0 Θ).1;clear xv sm;generalize vs.getD 0 0=y0 at*
 generalize vs.getD 1 0=y1 at*
 generalize vs.getD 2 0=y2 at*
 generalize vs.getD 3 0=y3 at*
 generalize vs.getD 4 0=y4 at*
 generalize vs.getD 5 0=y5 at*
 generalize vs.getD 6 0=y6 at*
 generalize vs.getD 7 0=y7 at*
 have⟨x,_,hx⟩:=oq (ch:=ch) (f:=Dt.str) (l:=bx) (by have:=W.b4;lia) y1;have⟨c,hcm,hc⟩:=oq (ch:=ch) (f:=Hd.d) (l:=cs) W.c0.1 y6;have⟨s,hsm,hs⟩:=oq (ch:=ch) (f:=Hd.d) (l:=ss) W.s0.1 y6;have⟨a,ha,fa⟩:=lj (ch:=ch) y2 (xs:=bx) (by intro e;have:=W.b4;rw[e]at this;cases this);have⟨b,hb,fb⟩:=lj (ch:=ch) y3 (xs:=bx) (by intro e;have:=W.b4;rw[e]at this;cases this);have lB:bLen.g [.e (bx.map .str)]=ς (.f (.int bx.length)):=by simp[bLen,eJ]
 have lC:bLen.g [.e (cs.map Hd.d)]=ς (.f (.int cs.length)):=by simp[bLen,eJ]
 have lD:bLen.g [.e (ss.map Hd.d)]=ς (.f (.int ss.length)):=by simp[bLen,eJ]
 have pB:(0:Int)<bx.length:=by have:=W.b4;lia
 have pC:(0:Int)<cs.length:=by have:=W.c0.1;lia
 have pD:(0:Int)<ss.length:=by have:=W.s0.1;lia
 have⟨t,ht0,ht1,ht⟩:=DE x4 x5 hw hn;have nx:∀p,p=w+1->0<=p/\p<n:=λp e=>by lia
 have hnm:c.1∈cs.map (·.1):=qb9.mpr ⟨c,hcm,rfl⟩;have hsf:s.1∈ss.map (·.1):=qb9.mpr ⟨s,hsm,rfl⟩;have P:=λ{g:η An}{L:η Prop}(z:Oa g L)=>Oa.v 0 hv1 (.c 0 x1 (.t 0 lB (.t 0 (mdI (v:=y1) rfl pB) (.c 0 hx (.c 0 x6 (.t 0 lC (.t 0 (mdI (v:=y6) rfl pC) (.c 0 hc (.c 1 x6 (.t 0 lD (.t 0 (mdI (v:=y6) rfl pD) (.c 0 hs (.c 1 x2 (.v 0 fa (.c 0 x3 (.v 0 fb (.c 0 x0 z)))))))))))))))))
 by_cases k5:y0%23<5
 .have⟨sg,hsg⟩:=zk (i:=y7%8) Θ Θ
  have hsg':ixV ch (.g (.str "+-*<=&|^")) (.int (y7%8))=ς (.g (.str sg)):=by show(ixD (.str "+-*<=&|^") (.int (y7%8))).map CV.g=_;rw[hsg];rfl
  exact⟨.op x sg a b,⟨⟨ha,hb⟩,nx⟩,xR (P (.t 1 (ltI (decide_eq_true k5)) (.c 0 x7 (.c 0 hsg' .nil))))⟩
 have k5':=ltI (decide_eq_false k5);by_cases k17:y0%23<17
 .have k17':=ltI (decide_eq_true k17);rcases(show y0%23%4=0\/y0%23%4=1\/y0%23%4=2\/y0%23%4=3 by lia)with q|q|q|q
  .exact⟨.load x c.1,⟨hnm,nx⟩,xR (P (.t 1 k5' (.t 0 k17' (.t 0 (mdI q Ω) .nil))))⟩
  .exact⟨.store c.1 a,⟨⟨hnm,ha⟩,nx⟩,xR (P (.t 1 k5' (.t 0 k17' (.t 0 (mdI q Ω) .nil))))⟩
  .exact⟨.take x s.1 a,⟨⟨hsf,ha⟩,nx⟩,xR (P (.t 1 k5' (.t 0 k17' (.t 0 (mdI q Ω) .nil))))⟩
  .exact⟨.lay s.1 a b,⟨⟨hsf,ha,hb⟩,nx⟩,xR (P (.t 1 k5' (.t 0 k17' (.t 0 (mdI q Ω) .nil))))⟩
 have k17':=ltI (decide_eq_false k17);by_cases k20:y0%23<20
 .have k20':=ltI (decide_eq_true k20);rcases(show y0%23%3=0\/y0%23%3=1\/y0%23%3=2 by lia)with q|q|q
  .exact⟨.copy x a,⟨ha,nx⟩,xR (P (.t 1 k5' (.t 0 k17' (.t 0 k20' (.t 0 (mdI q Ω) .nil)))))⟩
  .exact⟨.hear x,⟨trivial,nx⟩,xR (P (.t 1 k5' (.t 0 k17' (.t 0 k20' (.t 0 (mdI q Ω) .nil)))))⟩
  .exact⟨.say a,⟨ha,nx⟩,xR (P (.t 1 k5' (.t 0 k17' (.t 0 k20' (.t 0 (mdI q Ω) .nil)))))⟩
 have k20':=ltI (decide_eq_false k20);by_cases k22:y0%23<22
 .exact⟨.ife x t,⟨trivial,λp hp=>by rcases hp with rfl|rfl;exact⟨ht0,ht1⟩;lia⟩,xR (P (.t 1 k5' (.t 0 k17' (.t 0 k20' (.t 0 (ltI (decide_eq_true k22)) (.v 0 ht .nil))))))⟩
 have k22':=ltI (decide_eq_false k22);rcases(show y5/64%3=0\/y5/64%3=1\/y5/64%3=2 by lia)with q|q|q
 .exact⟨.fin a,⟨ha,λp hp=>hp.elim⟩,xR (P (.t 1 k5' (.t 0 k17' (.t 0 k20' (.t 0 k22' (.v 0 ht (.c 0 x5 (.t 1 (mdI q Ω) .nil))))))))⟩
 .exact⟨.say b,⟨hb,nx⟩,xR (P (.t 1 k5' (.t 0 k17' (.t 0 k20' (.t 0 k22' (.v 0 ht (.c 0 x5 (.t 1 (mdI q Ω) .nil))))))))⟩
 .exact⟨.go t,⟨trivial,λp hp=>by subst hp;exact⟨ht0,ht1⟩⟩,xR (P (.t 1 k5' (.t 0 k17' (.t 0 k20' (.t 0 k22' (.v 0 ht (.c 0 x5 (.t 1 (mdI q Ω) .nil))))))))⟩
end
section
variable{ch:CH}
theorem FP{d:Dt}(hl:l.length<=1000):oAdd.g (.t l) (.t [d])=ς (.f (.t (l++[d]))):=by
 cases l with
 |nil=>rfl
 |cons a l=>
  show orO eG ip _ _=_;unfold orO eG;have:(a::l).length+[d].length<=qa5:=by rw[qc1];simp at hl ⊢;lia
  rwa[this,true_and];simp
abbrev pE:Fg:=eCa 4 F7 (aCn (eIx (eV 1) (eV 0)) (aCn (eV 0) (aCn (e2 .v oAdd.g (eB .v bLen.g (aCn (eV 1) aNl)) (eK (.int 1))) (aCn (eV 2) aNl))))
theorem FQ{S W:Dt}{x O n:Int}(h1:ixV ch (.g S) (.int x)=ς (I O))(h2:bLen.g [S]=ς (.f (.int n)))(U:F7 [I O,I x,I (n+1),.g W] ch=ς (.g r.d,ch)):pE [ς (I x),ς (.g S),ς (.g W)] ch=ς (.g r.d,ch):=by simp! only[];simp[lent,vw,vws,fin,T.d,CV.old,h1,h2,oAdd,orO,eG,U]
theorem FR{fs:FM (η CV)}(hs:fs δ ch=ς (ds.map .g,ch))(hl:ds.length<=qa5):eTu fs δ ch=ς (.g (.t ds),ch):=by unfold eTu;rw[hs,qa0];dsimp only;rw[if_pos (by rw[qa6];exact hl),bC]
theorem qf:∀ds:η Dt,vws ch (ds.map .g)=ς ds
 |[]=>rfl
 |d::ds=>by show(vws ch (ds.map .g)).map (d::·)=_;rw[qf ds];rfl
theorem wy{m:Md}{g:η Dt->ζ T}{fs:FM (η CV)}{t:T}(hs:fs δ ch=ς (ds.map .g,ch))(O:g ds=ς t):eB m g fs δ ch=fin m ch t:=by unfold eB kB;rw[hs,qa0];dsimp only;rw[qf,qa0,O];rfl
theorem wz{cs:η Hd}{i:Nat}{n p:Int}(h:RwD cs ss i n r)(hp:ml i r p):0<=p/\p<n:=h.2 p (by cases r<;>exact hp)
theorem zm{cs:η Hd}(W:Wd bx cs ss inc)(Y:η Int)(hm:Y.length<=100)(O:Key)(hla:cZ O):∃R:η Rw,(0<R.length/\R.length<=1000)/\(∀r∈R,RwP cs ss r)/\(∀(i:Nat) r p,R[i]?=ς r->ml i r p->∃j:Nat,p=j/\j<R.length)/\R.length=Y.length+1/\F8 [.g (.e (Y.map .int)),.g (wdD bx cs ss inc),.g (aB O)] ch=ς (.g (pgm cs ss R),ch):=by
 obtain⟨S,hS⟩:∃S:Dt,S=.e (Y.map .int):=⟨_,rfl⟩;have lS:bLen.g [S]=ς (.f (.int Y.length)):=by rw[hS];simp[bLen,eJ]
 have⟨ys,e1,Z,e3⟩:=cY (pt:=.one 0) (ft:=tYs) (fe:=pE) (δ:=[ψ,ς (.g S),ς (.g (wdD bx cs ss inc))]) (ch:=ch) (f:=λi:Nat=>.int (0+(i:Int))) (g:=λp:Nat×Rw=>p.2.d) (h:=λp:Nat×Rw=>p.1) (h':=λi=>i) (Q:=λp:Nat×Rw=>RwD cs ss p.1 (Y.length+1) p.2) (l:=qc8 Y.length) λi hi=>by have hi:=qd5.mp hi;have⟨r,U,h⟩:=zl (ch:=ch) W (Y.getD i 0) (i:Int) (Y.length+1) Θ Θ;refine⟨[ς (I (0+(i:Int))),ς (.g S),ς (.g (wdD bx cs ss inc))],(i,r),rfl,rfl,?_,U,rfl⟩;rw[qm5];refine FQ ?_ lS h;rw[hS];show(ixD _ _).map CV.g=_;rw[ixI hi];rfl
 have hl:ys.length=Y.length:=by have:=congrArg qj0 e3;simpa using this
 refine⟨ys.map (·.2)++[.fin O],by simp;lia,λr U=>?_,λi r p U hp=>?_,by simp[hl],?_⟩
 .rcases qh1.mp U with U|U
  .have⟨y,hy,rfl⟩:=qb9.mp U;exact(Z y hy).1
  .simp at U;subst U;exact hla
 .rcases qi4 i ys.length with hi|hi
  .rw[qj2 ‹hi›,qa8]at U;have⟨y,hy,rfl⟩:=mS U;have h1:(ys.map λp=>p.1)[i]?=ς y.1:=by rw[qa8,hy];rfl
   have h2:(ys.map λp=>p.1)[i]?=ς i:=by rw[e3];simp[show i<Y.length by lia]
   have hfi:y.1=i:=by rw[h1]at h2;exact qd3 h2
   have hq:=Z y (qa4 hy);rw[hfi]at hq;have:=wz hq hp;exact⟨p.toNat,Θ,by simp;lia⟩
  .have hi2:i=ys.length:=by have:=ai U;simp at this;lia
   subst hi2;simp at U;subst U;exact hp.elim
 .have s1:=dX (i:=3) (δ:=[ς (.g S),ς (.g (wdD bx cs ss inc)),ς (.g (aB O)),ψ]) (ch:=ch) (dY (src:=[ψ,ς 0,ς 1]) (fi:=iR 1 (aCn (eB .v bLen.g (aCn (eV 0) aNl)) aNl)) (eT (b9 (by simp! only[];simp[lent,vw,vws,lS,fin,T.d])) (aR Θ)) rfl e1 (by rw[qa6,qc1];lia)) rfl;have ad:=FP (l:=ys.map λp=>p.2.d) (d:=.t [.str "end",aB O]) (by simp;lia);have ra:e2 .v oAdd.g (eB .v bTup.g (aCn (eV 3) aNl)) (eTu (aCn (eTu (aCn (eK (.str "end")) (aCn (eV 2) aNl))) aNl)) [ς (.g S),ς (.g (wdD bx cs ss inc)),ς (.g (aB O)),ς (.g (.e (ys.map λp=>p.2.d)))] ch=ς (.g (.t ((ys.map λp=>p.2.d)++[.t [.str "end",aB O]])),ch):=pz (x:=.g (.t (ys.map λp=>p.2.d))) (y:=.g (.t [.t [.str "end",aB O]])) rfl rfl rfl rfl ad;have hp:pgm cs ss (ys.map (·.2)++[.fin O])=.t [.t (cs.map Hd.d),.t (ss.map Hd.d),.t ((ys.map λp=>p.2.d)++[.t [.str "end",aB O]])]:=by simp[Rw.d,qb4]
  rw[hp,<- hS,q8];refine fX (aF s1 (jI (jH ?_ rfl)));have r1:eB .v bTup.g (aCn (eIx (eV 1) (eK (.int 1))) aNl) [ς (.g S),ς (.g (wdD bx cs ss inc)),ς (.g (aB O)),ς (.g (.e (ys.map λp=>p.2.d)))] ch=ς (.g (.t (cs.map Hd.d)),ch):=rfl;have r2:eB .v bTup.g (aCn (eIx (eV 1) (eK (.int 2))) aNl) [ς (.g S),ς (.g (wdD bx cs ss inc)),ς (.g (aB O)),ς (.g (.e (ys.map λp=>p.2.d)))] ch=ς (.g (.t (ss.map Hd.d)),ch):=rfl;exact FR (ds:=[.t (cs.map Hd.d),.t (ss.map Hd.d),.t ((ys.map λp=>p.2.d)++[.t [.str "end",aB O]])]) (bK r1 (bK r2 (b9 ra))) (by rw[qc1];simp)
theorem qg(n:Int)(hn:xs.Nodup)(hl:xs.length<=6):∃bs:η Str,(bs.Nodup/\bs.length<=6/\∀s∈bs,s∈xs)/\F20 [I n,.g (.e (xs.map .str))] ch=ς (.g (.t (bs.map .str)),ch):=by
 obtain⟨X,W⟩:∃X:Dt,X=.e (xs.map .str):=⟨_,rfl⟩;have lX:bLen.g [X]=ς (.f (.int xs.length)):=by rw[W];simp[bLen,eJ]
 have xX:∀k:Nat,k<xs.length->ixV ch (.g X) (.int k)=ς (.g (.str (xs.getD k za1))):=λk hk=>by rw[W];show(ixD _ _).map CV.g=_;rw[ixS hk];rfl
 obtain⟨q,hq⟩:∃q:Nat->Bool,q=λi:Nat=>decide (qx9 (n/2^((0+(i:Int)).toNat)) 1=1):=⟨_,rfl⟩
 have e1:=cX (pt:=.one 0) (ft:=iQ (e2 .v oEq.g (e2 .v oBan.g (e2 .v oShr.g (eV 2) (eV 0)) (eK (.int 1))) (eK (.int 1)))) (fe:=eIx (eV 1) (eV 0)) (δ:=[ψ,ς (.g X),ς (I n)]) (ch:=ch) (f:=λi:Nat=>.int (0+(i:Int))) (g:=λi:Nat=>.str (xs.getD i za1)) (p:=q) (l:=qc8 xs.length) λi hi=>by
  refine⟨[ς (I (0+(i:Int))),ς (.g X),ς (I n)],rfl,?_,λ_=>?_⟩
  .rw[hq];show _=ς (decide (qx9 (n/2^((0+(i:Int)).toNat)) 1=1),ch);have h0:(0:Int)<=0+(i:Int):=by lia
   generalize (0:Int)+(i:Int)=z at h0 ⊢;simp! only[];simp[lent,vw,fin,T.d,dN,oShr,yC,h0,oBan,qQ,oEq,gEq,eqdi]
  .rw[qm5];simp! only[];simp[lent,vw,xX i (qd5.mp hi)]
 obtain⟨ys,O⟩:∃ys:η Str,ys=((qc8 xs.length).filter q).map λi=>xs.getD i za1:=⟨_,rfl⟩
 have U:ys.Nodup:=by rw[O];exact oo hn (List.Pairwise.filter _ ql8) λi hi=>qd5.mp (qw0.mp hi).1
 have hyl:ys.length<=6:=by rw[O,qa6];have:=zc9 q (qc8 xs.length);rw[qt7]at this;lia
 have e1':aE (bnd (.one 0)) (iQ (e2 .v oEq.g (e2 .v oBan.g (e2 .v oShr.g (eV 2) (eV 0)) (eK (.int 1))) (eK (.int 1)))) (eIx (eV 1) (eV 0)) [ψ,ς (.g X),ς (I n)] (ay 0 xs.length) ch=ς ((ys.map .str).map .g,ch):=by rw[O,qd1,qd1];exact e1
 have Y:=dY (src:=[ψ,ς 1,ς 0]) (δ:=[ς (I n),ς (.g X)]) (fi:=iR 1 (aCn (eB .v bLen.g (aCn (eV 1) aNl)) aNl)) (eT (b9 (by simp! only[];simp[lent,vw,vws,lX,fin,T.d])) (aR Θ)) rfl e1' (by rw[qa6,qc1];lia)
 have Z:bSrt.g [.e (ys.map .str)]=ς (.e ((dF ys).map .str)):=by rwa[bSrt,gF,ee,qa0,show ys.length<64 by lia,if_true]
 refine⟨dF ys,⟨(bF ys).nodup_iff.mpr U,by rw[(bF ys).length_eq];exact hyl,λs hs=>?_⟩,?_⟩
 .have:=(bF ys).mem_iff.mp hs;rw[O]at this;have⟨i,hi,rfl⟩:=qb9.mp this;have hl:=qd5.mp (qw0.mp hi).1;rw[qb0,gQ hl];exact ql7 hl
 rw[<- W,q20];refine fX (jI (jH ?_ rfl));have h1:=wy (m:=.v) (g:=bSrt.g) (ds:=[.e (ys.map .str)]) (b9 Y) Z;exact wy (m:=.v) (g:=bTup.g) (ds:=[.e ((dF ys).map .str)]) (b9 h1) rfl
end
variable{s0 s1:ζ CV}{st:Int}{R:η Rw}
section
variable{ch:CH}
theorem FS(r:Rw):∃k l,r.d=.t (.str k::l):=by cases r<;>exact⟨_,_,rfl⟩
abbrev kB':Fs:=evS (av gc t21) (foB d21.b)
abbrev kE(s0 s1:ζ CV)(X RR V:Dt)(st:Int)(l:η Dt)(a:ζ CV):Sl:=[s0,s1,ς (.g X),ς (.g RR),ς (.g V),ς (I st),ς (.own θ (.e l)),a]
theorem FT{O V X:Dt}{x v:Int}{l:η Dt}{k:Str}{rest:η Dt}{bs:η Str}(W:ixV ch (.g O) (.int x)=ς (.g (.t (.str k::rest))))(h4:ixV ch (.g V) (.int (x+1))=ς (I v))(U:0<st)(hb:F20 [I (v/30),.g X] ch=ς (.g (.t (bs.map .str)),ch))(hl:l.length<=1000):kB' (kE s0 s1 X O V st l (ς (I x))) ch=ς (.nx (kE s0 s1 X O V st l (ς (I x))) ch)\/kB' (kE s0 s1 X O V st l (ς (I x))) ch=ς (.nx (kE s0 s1 X O V st (l++[.t [.int x,.t (bs.map .str)]]) (ς (I x))) ch):=by
 have Y:=ix0 (ch:=ch) (d:=.str k) (l:=rest);have ap:=Ad (ch:=ch) (δ:=kE s0 s1 X O V st l (ς (I x))) (i:=6) (l:=l) (d:=.t [.int x,.t (bs.map .str)]) rfl (by rw[qc1];lia);have e:oEq.g (.str k) (.str "end")=ς (.f (.bl (decide (k=qd0 "end")))):=rfl;by_cases h1:k=qd0 "end"
 .rw[decide_eq_true h1]at e;exact .inr (xRs (.c 0 W (.c 0 Y (.t 0 e (.c 0 h4 (.v 0 hb (.o 0 ap .nil)))))))
 .rw[decide_eq_false h1]at e;by_cases h2:v%st=0
  .exact .inr (xRs (.c 0 W (.c 0 Y (.t 0 e (.c 0 h4 (.t 0 (mdI h2 U) (.c 0 h4 (.v 0 hb (.o 0 ap .nil)))))))))
  .exact .inl (xRs (.c 0 W (.c 0 Y (.t 0 e (.c 0 h4 (.t 0 (mdI (v:=v) rfl U) (.t 0 (eqI (decide_eq_false h2)) .nil)))))))
theorem iJ{s0 s1:ζ CV}{vs:η Int}(Y:0<st)(hv:R.length+2<=vs.length)(hn:xs.Nodup)(hx:xs.length<=6)(hR:R.length<=101):∀{js:η Nat}{ks:η Kp'}{a7:ζ CV},(∀j∈js,j<R.length)->(ks.map (·.1)++js.map λj:Nat=>(j:Int)).Nodup->(∀k∈ks,k.2.Nodup/\k.2.length<=6/\∀s∈k.2,s∈xs)->ks.length+js.length<=101->∃(O:η Kp')(U:ζ CV),bM (bnd (.one 7)) kB' (js.map λj:Nat=>.int (0+(j:Int))) (kE s0 s1 (.e (xs.map .str)) (.t (R.map Rw.d)) (.e (vs.map .int)) st (ks.map Kp'.d) a7) ch=ς (.nx (kE s0 s1 (.e (xs.map .str)) (.t (R.map Rw.d)) (.e (vs.map .int)) st (O.map Kp'.d) U) ch)/\(O.map (·.1)).Nodup/\∀k∈O,k.2.Nodup/\k.2.length<=6/\∀s∈k.2,s∈xs
 |[],ks,a7,_,W,hk,_=>⟨ks,a7,rfl,‹W›,hk⟩
 |j::js,ks,a7,hj,W,hk,hl=>by
  rwa[qb8]at hl;have hjl:=hj j (.head _);have⟨k,rest,hr⟩:=FS R[j]
  have h3:ixV ch (.g (.t (R.map Rw.d))) (.int (0+(j:Int)))=ς (.g (.t (.str k::rest))):=by rw[qm5];show(ixD _ _).map CV.g=_;rw[(gJ (L:=R.map Rw.d) (i:=j) (d:=R[j].d) (by rw[qa8,gQ hjl];rfl)).2,hr];rfl
  have h4:ixV ch (.g (.e (vs.map .int))) (.int (0+(j:Int)+1))=ς (I (vs.getD (j+1) 0)):=by rw[show(0:Int)+(j:Int)+1=((j+1:Nat):Int)by push_cast;lia];show(ixD _ _).map CV.g=_;rw[ixI Θ];rfl
  have⟨bs,hbs,hb⟩:=qg (ch:=ch) (vs.getD (j+1) 0/30) hn hx;rcases FT (s0:=s0) (s1:=s1) (l:=ks.map Kp'.d) h3 h4 Y hb (by simp;lia)with e|e
  .have⟨O,U,i1,i2,i3⟩:=iJ (s0:=s0) (s1:=s1) Y hv hn hx hR (js:=js) (ks:=ks) (a7:=ς (I (0+(j:Int)))) (λi hi=>hj i (.tail _ hi)) (by rw[qe8]at W ⊢;refine⟨W.1,?_,λa ha b hb=>W.2.2 a ha b (by simp at hb ⊢;exact .inr hb)⟩;have:=W.2.1;rw[qa3,qc6]at this;exact this.2) hk Θ
   exact⟨O,U,qu1 (br rfl e) i1,i2,i3⟩
  .have hks:ks.map Kp'.d++[.t [.int (0+(j:Int)),.t (bs.map .str)]]=(ks++[((0+(j:Int),bs):Kp')]).map Kp'.d:=by simp[Kp'.d]
   rw[hks]at e
   have⟨O,U,i1,i2,i3⟩:=iJ (s0:=s0) (s1:=s1) Y hv hn hx hR (js:=js) (ks:=ks++[((0+(j:Int),bs):Kp')]) (a7:=ς (I (0+(j:Int)))) (λi hi=>hj i (.tail _ hi)) (by rw[qm5];simpa[qd8] using W) (λq Z=>by rcases qh1.mp Z with Z|Z;exact hk q Z;simp at Z;subst Z;exact hbs) (by simp;lia)
   exact⟨O,U,qu1 (br rfl e) i1,i2,i3⟩
theorem zn{l:η Int}(h:0<l.length):∃v,ixV ch (.g (.e (l.map .int))) (.int (-1))=ς (I v):=by
 have:atI (l.map Dt.int) (-1)=ς (.int (l.getD (l.length-1) 0)):=by unfold atI ixN;rw[if_neg Ω,qa6,if_pos Θ,qa0,show((-1:Int)+(l.length:Int)).toNat=l.length-1 by lia,qa8,gQ Θ,qb0,gQ Θ];rfl
 refine⟨l.getD (l.length-1) 0,?_⟩;show(ixD _ _).map CV.g=_;simp[ixD,bQ,gIx,this]
theorem DF{cs:η Hd}{R:η Rw}{xs:η Str}(c:Int)(hn:xs.Nodup)(Z:xs.length<=6)(hR:0<R.length/\R.length<=98):∃bg ks,(bg.Nodup/\bg.length<=6)/\(ks.map (·.1)).Nodup/\(∀k∈ks,k.2.Nodup/\k.2.length<=6/\∀s∈k.2,s∈xs)/\F21 [.g (pgm cs ss R),I c,.g (.e (xs.map .str))] ch=ς (.g (cod bg ks),ch):=by
 have⟨vs,hv1,hv2,hv3⟩:=ci (ch:=ch) c (R.length+2) Θ
 have h0:ixV ch (.g (.e (vs.map .int))) (.int 0)=ς (I (vs.getD 0 0)):=by show(ixD _ (.int ((0:Nat):Int))).map CV.g=_;rw[ixI Θ];rfl
 obtain⟨st,j,W,hq,U⟩:∃st j:Int,0<st/\vs.getD 0 0%3=j/\ixV ch (.g (.e [.int 2,.int 3,.int 5])) (.int j)=ς (I st):=by
  rcases(show vs.getD 0 0%3=0\/vs.getD 0 0%3=1\/vs.getD 0 0%3=2 by lia)with q|q|q
  .exact⟨2,0,Ω,q,rfl⟩
  .exact⟨3,1,Ω,q,rfl⟩
  .exact⟨5,2,Ω,q,rfl⟩
 have⟨ks,a7,k1,k2,k3⟩:=iJ (ch:=ch) (s0:=ς (.g (pgm cs ss R))) (s1:=ς (I c)) (R:=R) (vs:=vs) (xs:=xs) W Θ hn Z Θ (js:=qc8 R.length) (ks:=[]) (a7:=ψ) (λj U=>qd5.mp U) (by rwa[qf8,qp3];exact qh9 _ (λa b h q=>h Θ) ql8) Ξ (by simp;lia)
 have⟨v,hv⟩:=zn (ch:=ch) (l:=vs) Θ;have⟨bg,O,hb⟩:=qg (ch:=ch) v hn Z;have Y:bLen.g [.t (R.map Rw.d)]=ς (.f (.int R.length)):=by simp[bLen,eJ]
 have s5:=aH (fi:=iR 1 (aCn (eB .v bLen.g (aCn (eV 3) aNl)) aNl)) (pt:=.one 7) (g:=kB') (ds:=ay 0 R.length) (eT (b9 (wy (m:=.v) (δ:=kE (ς (.g (pgm cs ss R))) (ς (I c)) (.e (xs.map .str)) (.t (R.map Rw.d)) (.e (vs.map .int)) st [] ψ) (ds:=[.t (R.map Rw.d)]) (b9 rfl) Y)) (aR Θ)) k1;exact⟨bg,ks,⟨O.1,O.2.1⟩,k2,k3,xR (.t 0 Y (.v 0 hv1 (.c 0 h0 (.t 0 (mdI hq Ω) (.c 0 U (.o 0 s5 (.c 0 hv (.v 0 hb .nil))))))))⟩
end
omit x in
theorem mH{κ:Type}[DecidableEq κ]{k:κ}{d:Dt}:∀{b:η (κ×Dt)},(b.map (·.1)).Nodup->((aG b k d).map (·.1)).Nodup/\∀j,j∈(aG b k d).map (·.1)->j=k\/j∈b.map (·.1)
 |[],_=>by simp[aG]
 |p::b,h=>by
  have h':=qc6.mp h;have⟨W,U⟩:=mH (k:=k) (d:=d) (b:=b) h'.2;unfold aG;split
  .exact⟨h,λj O=>.inr O⟩
  .rename_i e;refine⟨qc6.mpr ⟨λY=>?_,W⟩,λj O=>?_⟩
   .rcases U _ Y with q|q
    .exact e q
    .exact h'.1 q
   .rcases qc3.mp O with q|q
    .exact .inr (by rw[q];exact .head _)
    .rcases U _ q with q|q
     .exact .inl q
     .exact .inr (.tail _ q)
def cdB:S->S
 |.sq (.cd _ a _) _=>a
 |.sq _ b=>cdB b
 |_=>.nil
abbrev Bl:=η (Key×Dt)
abbrev lk(bl:Bl)(n:Str):ζ Dt:=am (bl.map (·.1)) (bl.map (·.2)) (qn1 n)
abbrev dD(d0 d1 d2:Int):Dt:=.e [.int d0,.int d1,.int d2]
section
variable{x:Fx}{R:η Rw}{sh:Sh}{cs ss:η Hd}{N M:Nat}{S:HS}{lo:ζ LS}{g:Vf}{h:Nat}{b:CH}{rw:Dt}{ns:η Str}{bl:Bl}{gv:Str}{d0 d1 d2:Int}{r:Rw}
theorem zo:F26 [.g r.d] b=ς (.g (.str r.x),b):=by cases r<;>exact xR .nil
abbrev wtB:Fs:=evS (av gc t53) (foN 0 d53.b)
abbrev wtE(h:Nat)(nm:Dt)(bl:Bl)(gv:Str)(du pd:Dt)(a6 a7:ζ CV):Sl:=[ς (.ref h),ς (.g nm),ς (.own ξ (.dct bl)),ς (.g (.str gv)),ς (.g du),ς (.g pd),a6,a7]
theorem iK{nm du pd:Dt}:∀{bs:η Bx}{a6 a7:ζ CV},(∀c∈bs,∃v,lk bl c.1=ς (.int v)/\(c.1≠gv->c.2=v))->∃O U,bM (bnd (.many [6,7])) wtB (bs.map Bx.d) (wtE h nm bl gv du pd a6 a7) b=ς (.nx (wtE h nm bl gv du pd O U) b)
 |[],a6,a7,_=>⟨a6,a7,rfl⟩
 |c::bs,a6,a7,hb=>by
  have⟨O,U,i⟩:=iK (nm:=nm) (du:=du) (pd:=pd) (bs:=bs) (a6:=ς (.g (.str c.1))) (a7:=ς (I c.2)) λd hd=>hb d (.tail _ hd)
  refine⟨O,U,qu1 (br (δ':=wtE h nm bl gv du pd (ς (.g (.str c.1))) (ς (I c.2))) rfl ?_) i⟩;have⟨v,h1,h2⟩:=hb c (.head _);have W:oNe.g (.str c.1) (.str gv)=ς (.f (.bl (!decide (c.1=gv)))):=rfl;by_cases e:c.1=gv
  .rw[decide_eq_true e]at W;exact xRs (.t 0 W .nil)
  .rw[decide_eq_false e]at W
   have Z:ixV b (.own ξ (.dct bl)) (.str c.1)=ς (I v):=by show(ixD (.dct (bl.map (·.1)) (bl.map (·.2))) (.str c.1)).map CV.g=_;simp[ixD,bQ,cJ,h1]
   have Y:=h2 e;exact xRs (.t 0 W (.c 0 Z (.t 0 (show oNe.g (.int c.2) (.int v)=ς (.f (.bl ξ))by rw[Y];exact ce rfl) .nil)))
theorem ou{nm:Dt}(A:In sh h S lo g b){q:Pg}(Z:S.pg S.c=q)(hb:∀c∈q.bs,∃v,lk bl c.1=ς (.int v)/\(c.1≠gv->c.2=v)):F53 [.ref h,.g nm,.own ξ (.dct bl),.g (.str gv),.g (dD q.dn q.he q.sy)] b=ς (.g (.bl θ),b):=by have⟨q0,O⟩:=A.h1;have U:=A.pur (ds:=[]) (ah _) (eg (sh:=sh) (S:=S) (lo:=lo) (g:=g));have pg:=A.pur (ds:=[.int (cI S.c)]) (ah _) (bT (sh:=sh) (S:=S) (lo:=lo) (g:=g) S.c);rw[Z]at pg;have⟨a6,a7,Y⟩:=iK (h:=h) (b:=b) (bl:=bl) (gv:=gv) (nm:=nm) (du:=dD q.dn q.he q.sy) (pd:=q.d) (a6:=ψ) (a7:=ψ) hb;have W:=aH (fi:=iE (eIx (eV 5) (eK (.int 4)))) (pt:=.many [6,7]) (g:=wtB) (ds:=q.bs.map Bx.d) rfl Y;have sl:eSl .v (eV 5) (ς (eK (.int 1))) (ς (eK (.int 4))) (wtE h nm bl gv (dD q.dn q.he q.sy) q.d a6 a7) b=ς (.g (.t [.int q.dn,.int q.he,.int q.sy]),b):=rfl;exact xR (.h 0 O (.h 0 O (.v 0 U (.v 0 pg (.o 0 W (.v 0 sl (.t 1 (iD (d:=dD q.dn q.he q.sy) rfl) .nil)))))))
abbrev wkE(h:Nat)(pg nm mm:Dt)(bl:Bl)(gv:Str)(du:Dt)(a7 a8 a9:ζ CV):Sl:=[ς (.ref h),ς (.g pg),ς (.g nm),ς (.g mm),ς (.own θ (.dct bl)),ς (.g (.str gv)),ς (.g du),a7,a8,a9]
abbrev wkB:Fs:=evS (av gc t54) (foN 0 d54.b)
abbrev wkC:Fs:=evS (av gc t54) (foN 0 (cdB (foN 0 d54.b)))
theorem mI{v:Str->Int}{pg nm mm du:Dt}{a7 a8:ζ CV}{q:η CV}(h1:b[h]?=ς (.ins 3 q))(hb:∀n,F28 [.ref h,.g (.str n)] b=ς (I (v n),b)):∀{ns:η Str}{bl:Bl}{a9:ζ CV},(bl.map (·.1)).Nodup->bl.length+ns.length<=1000000->∃O U,bM (bnd (.one 9)) wkC (ns.map .str) (wkE h pg nm mm bl gv du a7 a8 a9) b=ς (.nx (wkE h pg nm mm O gv du a7 a8 U) b)/\(O.map (·.1)).Nodup/\O.length<=bl.length+ns.length/\∀n,(n∈ns->lk O n=ς (.int (v n)))/\(n∉ns->lk O n=lk bl n)
 |[],bl,a9,W,_=>⟨bl,a9,rfl,W,nL _,λn=>⟨λh=>(by cases h),λ_=>rfl⟩⟩
 |m::ns,bl,a9,W,hl=>by
  rwa[qb8]at hl;have pl:(aG bl (.inr m) (.int (v m))).length<=bl.length+1:=fg;have⟨O,U,i1,i2,i3,i4⟩:=mI (pg:=pg) (nm:=nm) (mm:=mm) (du:=du) (a7:=a7) (a8:=a8) h1 hb (ns:=ns) (bl:=aG bl (.inr m) (.int (v m))) (a9:=ς (.g (.str m))) (mH W).1 Θ;refine⟨O,U,qu1 (br (δ':=wkE h pg nm mm bl gv du a7 a8 (ς (.g (.str m)))) rfl ?_) i1,i2,by rwa[qb8];lia,λn=>⟨λY=>?_,λY=>?_⟩⟩
  .exact xRs (.o 0 (nZ (i:=4) (fk:=eV 9) (d:=.str m) (t:=.dct bl) (t':=.dct (aG bl (.inr m) (.int (v m)))) (Dx (δ:=wkE h pg nm mm bl gv du a7 a8 (ς (.g (.str m)))) (i:=0) (j:=9) h1 (hb m) rfl rfl) rfl rfl (by show(if bl.length<qa5/\(bl.map (·.1)).Nodup then ς (T.dct (aG bl (.inr m) (.int (v m))))else ψ)=_;rw[if_pos ⟨by rw[qc1];lia,W⟩])) .nil)
  .by_cases Z:n∈ns
   .exact(i4 n).1 Z
   .obtain rfl:n=m:=(qc3.mp Y).resolve_right Z;rw[(i4 n).2 Z];show am _ _ _=_;rw[eZ,if_pos rfl]
  .rw[(i4 n).2 λz=>Y (.tail _ z)];show am _ _ _=_;rw[eZ,if_neg λe=>Y (by rw[qv9 e];exact .head _)]
def Lp(x:Fx)(R:Nat)(sh:Sh)(N:Nat)(S:HS)(lo:ζ LS)(g:Vf)(bl:Bl)(gv:Str)(d0 d1 d2:Int):Prop:=
 (lo=ψ/\S.plan=[.wake]/\Ok x R sh N S g/\bl=[]/\(S.pg S.c).dn=d0/\(S.pg S.c).he=d1/\(S.pg S.c).sy=d2)\/
 (∃l,lo=ς l/\(l.dn=d0/\l.he=d1/\l.sy=d2)/\(Sd x R sh N S l g\/∃q,S.plan≠[]/\Wr x R sh N S l g q/\bl≠[]/\q.dn=d0/\q.he=d1/\q.sy=d2/\∀c∈q.bs,∃v,lk bl c.1=ς (.int v)/\(c.1≠gv->c.2=v)))\/
 (∃v,S.res=ς v/\FOk N S.fst)
def Rw.hb:Rw->Bool
 |.hear _=>θ
 |_=>ξ
def Rw.sb:Rw->Bool
 |.say _=>θ
 |_=>ξ
theorem eq_h:oEq.g (.str (kd r)) (.str "hear")=ς (.f (.bl r.hb)):=by cases r<;>kernel_rfl
theorem eq_s:oEq.g (.str (kd r)) (.str "say")=ς (.f (.bl r.sb)):=by cases r<;>kernel_rfl
theorem in_h:bInt.g [.bl r.hb]=ς (.f (.int r.he)):=by cases r<;>rfl
theorem in_s:bInt.g [.bl r.sb]=ς (.f (.int r.sy)):=by cases r<;>rfl
theorem FU(h:bl≠[]):oNeE.g (.dct (bl.map (·.1)) (bl.map (·.2))) (.dct [] [])=ς (.f (.bl θ)):=by
 cases bl with
 |nil=>exact absurd rfl h
 |cons p bl=>unfold oNeE;dsimp only;unfold orO;have e:gEq θ (.dct ((p::bl).map (·.1)) ((p::bl).map (·.2))) (.dct [] [])=ψ:=rfl;rw[e];dsimp only;exact if_pos Ξ
end
section
variable{x:Fx}{R:η Rw}{sh:Sh}{cs ss:η Hd}{N M:Nat}{S:HS}{lo:ζ LS}{l:LS}{g:Vf}{h:Nat}{b:CH}{ns:η Str}{bl:Bl}{gv:Str}{d0 d1 d2:Int}{nm mm:Dt}{a7 a8 a9:ζ CV}
theorem Sd.up{R:Nat}(o:Sd x R sh N S l g):Sd x R sh (N+1) S l g:=⟨o.ok.up,o.pl,o.lk.up,o.li⟩
def Trn(x:Fx)(R:η Rw)(sh:Sh)(cs ss:η Hd)(N M h:Nat)(ns:η Str)(mm:Dt)(bl:Bl)(gv:Str)(d0 d1 d2:Int)(a7 a8 a9:ζ CV)(b:CH):Prop:=∃S' lo' g' b' O U Z e1 e2 Y W,wkB (wkE h (pD cs ss (.t (R.map Rw.d))) (.e (ns.map .str)) mm bl gv (dD d0 d1 d2) a7 a8 a9) b=ς (.nx (wkE h (pD cs ss (.t (R.map Rw.d))) (.e (ns.map .str)) mm O U (dD Z e1 e2) a7 Y W) b')/\In sh h S' lo' g' b'/\Lp x R.length sh (N+1) S' lo' g' O U Z e1 e2/\(O.map (·.1)).Nodup/\O.length<=M+100
theorem DG(X:XR x R sh ns)(hN:N<1000)(hl:0<ns.length/\ns.length<=100)(hbn:(bl.map (·.1)).Nodup)(hM:bl.length<=M)(hM2:M<=100000)(A:In sh h S (ς l) g b)(o:Sd x R.length sh N S l g):Trn x R sh cs ss N M h ns mm bl gv l.dn l.he l.sy a7 a8 a9 b:=by
 have⟨i,hi,hiR⟩:=o.li;obtain⟨r,hR⟩:∃r,R[i]?=ς r:=⟨_,gQ hiR⟩;have⟨q0,h0⟩:=A.h1;have st:=A.pur (ds:=[]) (ah _) (cf (sh:=sh) (l:=l) (g:=g) o.ok.rs o.pl);have bx:=λn=>A.pur (ds:=[.str n]) (ah _) (Ac (sh:=sh) (g:=g) o.ok.rs o.pl o.lk n)
 have O:ixV b (.g (.t (R.map Rw.d))) (.int l.pl)=ς (.g r.d):=(gK hi (by rw[qa8,hR];rfl)).2;have hk:=z7 (ch:=b) (r:=r);have sa:=zo (b:=b) (r:=r);have e1:=eq_h (r:=r);have U:=eq_s (r:=r);have e3:=in_h (r:=r);have e4:=in_s (r:=r);unfold Trn;generalize Dt.t (R.map Rw.d)=RD at O ⊢;have⟨W,a9',n1,n2,n3,n4⟩:=mI (v:=bv l.bx l.du) (gv:=r.x) (pg:=pD cs ss RD) (nm:=.e (ns.map .str)) (mm:=mm) (du:=dD l.dn l.he l.sy) (a7:=a7) (a8:=ς (I l.pl)) (a9:=a9) h0 bx (ns:=ns) hbn Θ;have j1:=aH (fi:=iE (eV 2)) (pt:=.one 9) (g:=wkC) (ds:=ns.map .str) rfl n1;generalize r.d=rd at O hk sa;generalize kd r=kr at hk e1 U;generalize r.hb=rh at e1 e3;generalize r.sb=rs at U e4;have Y:=λ{g':η An}{L':η Prop}(z:Oa g' L')=>Oa.h 0 h0 (.v 0 st (.c 1 O (.v 0 sa (.o 0 j1 (.c 3 O (.c 0 hk (.t 0 e1 (.t 0 e3 (.c 2 O (.c 0 hk (.t 0 U (.t 0 e4 z))))))))))))
 have⟨k1,k2⟩:=Ds X Θ o hi hR;have hbl:∀c∈ns,W≠[]:=λc hc e=>by have:=(n4 c).1 hc;rw[e]at this;cases this
 obtain⟨Z,hn0⟩:∃Z,Z∈ns:=by cases ns with|nil=>simp at hl|cons Z ns=>exact⟨Z,.head _⟩
 by_cases hf:∃a,r=.fin a
 .have⟨a,ha⟩:=hf;have⟨v,sp⟩:=k1 a ha;have⟨S1,lo1,g1,b1,⟨rfl,rfl,rfl⟩,c1,A1⟩:=A.to (ds:=[]) (ah _) (.here (Q:=λS' lo' g'=>S'={S with res:=ς v}/\lo'=ς {l with dn:=l.dn+1}/\g=g') (vU (sh:=sh) (lo:=ς l) (g:=g) o.ok.rs o.pl sp) (nL _) ⟨rfl,rfl,rfl⟩);exact⟨_,_,_,b1,W,r.x,l.dn+1,l.he+r.he,l.sy+r.sy,ς (I l.pl),a9',xRs (Y (.h 0 h0 (.v 0 c1 .nil))),A1,.inr (.inr ⟨v,rfl,o.ok.ft.up⟩),n2,Θ⟩
 .have⟨S1,lo1,g1,b1,⟨l',rfl,⟨m1,m2,m3⟩,hs⟩,c1,A1⟩:=A.to (ds:=[]) (ah _) ((k2 λa e=>hf ⟨a,e⟩).run λch' e=>vU (sh:=sh) (lo:=ς l) (g:=g) o.ok.rs o.pl e);refine⟨_,_,_,b1,W,r.x,l.dn+1,l.he+r.he,l.sy+r.sy,ς (I l.pl),a9',xRs (Y (.h 0 h0 (.v 0 c1 .nil))),A1,.inr (.inl ⟨l',rfl,⟨m1,m2,m3⟩,hs.imp_right λ⟨q,p1,p2,p3,p4,p5,p6⟩=>⟨q,p1,p2,hbl Z hn0,p3,p4,p5,λc hc=>?_⟩⟩),n2,Θ⟩;exact⟨_,(n4 c.1).1 (p6 c hc).1,(p6 c hc).2⟩
theorem zp(X:XR x R sh ns)(hN:N<1000)(hl:0<ns.length/\ns.length<=100)(O:(bl.map (·.1)).Nodup)(hM:bl.length<=M)(hM2:M<=100000)(A:In sh h S lo g b)(P:Lp x R.length sh N S lo g bl gv d0 d1 d2):Trn x R sh cs ss N M h ns mm bl gv d0 d1 d2 a7 a8 a9 b:=by
 have⟨q0,U⟩:=A.h1;rcases P with ⟨rfl,hp,o,rfl,rfl,rfl,rfl⟩|⟨l,rfl,⟨rfl,rfl,rfl⟩,o|⟨q,hp,o,hb,q1,q2,q3,q4⟩⟩|⟨v,hr,hf⟩
 .have Z:S.plan≠[]:=by rw[hp];simp
  have st:=A.pur (ds:=[]) (ah _) (cg (sh:=sh) (lo:=ψ) (g:=g) o.rs Z);have⟨S1,lo1,g1,b1,⟨rfl,rfl,rfl⟩,Y,A1⟩:=A.to (ds:=[]) (ah _) ((pO o hp).run λch' e=>ld (sh:=sh) (lo:=ψ) (g:=g) o.rs Z e);have⟨q1,h1⟩:=A1.h1;have s1:=A1.pur (ds:=[]) (ah _) (cf (sh:=sh) (S:={S with plan:=[]}) (l:=fm S) (g:=g1) o.rs rfl);have ne:oNeE.g (.dct [] []) (.dct [] [])=ς (.f (.bl ξ)):=rfl;exact⟨_,_,_,b1,[],gv,_,_,_,ς (.g .non),a9,xRs (.h 0 U (.v 0 st (.h 0 U (.v 0 Y (.h 0 h1 (.v 0 s1 (.t 1 ne .nil))))))),A1,.inr (.inl ⟨_,rfl,⟨rfl,rfl,rfl⟩,.inl (ll o).up⟩),O,Ξ⟩
 .exact DG X hN hl O hM hM2 A o
 .have st:=A.pur (ds:=[]) (ah _) (cg (sh:=sh) (lo:=ς l) (g:=g) o.ok.rs hp);have⟨S1,lo1,g1,b1,⟨l',rfl,⟨m1,m2,m3⟩,hs⟩,Y,A1⟩:=A.to (ds:=[]) (ah _) ((yT X.X.nd Θ o hp).run λch' e=>ld (sh:=sh) (lo:=ς l) (g:=g) o.ok.rs hp e);have⟨q5,h1⟩:=A1.h1;rcases hs with ⟨W,hq⟩|⟨hp1,W⟩
  .have s1:=A1.pur (ds:=[]) (ah _) (cf (sh:=sh) (S:=S1) (l:=l') (g:=g1) W.ok.rs W.pl);have wr:=ou (gv:=gv) (bl:=bl) (nm:=.e (ns.map .str)) A1 hq q4;rw[q1,q2,q3]at wr;exact⟨_,_,_,b1,bl,gv,_,_,_,ς (.g .non),a9,xRs (.h 0 U (.v 0 st (.h 0 U (.v 0 Y (.h 0 h1 (.v 0 s1 (.t 1 (FU hb) (.v 0 wr .nil)))))))),A1,.inr (.inl ⟨l',rfl,⟨m1,m2,m3⟩,.inl W⟩),O,Θ⟩
  .have s1:=A1.pur (ds:=[]) (ah _) (cg (sh:=sh) (S:=S1) (lo:=ς l') (g:=g1) W.ok.rs hp1);exact⟨_,_,_,b1,bl,gv,_,_,_,ς (.g .non),a9,xRs (.h 0 U (.v 0 st (.h 0 U (.v 0 Y (.h 0 h1 (.v 0 s1 .nil)))))),A1,.inr (.inl ⟨l',rfl,⟨m1,m2,m3⟩,.inr ⟨q,hp1,W,hb,q1,q2,q3,q4⟩⟩),O,Θ⟩
 .have st:=A.pur (ds:=[]) (ah _) (mt (sh:=sh) (lo:=lo) (g:=g) hr);have Y:=A.pur (ds:=[]) (ah _) (jN (sh:=sh) (lo:=lo) (g:=g) hr);exact⟨S,lo,g,b,bl,gv,d0,d1,d2,ς (.g .non),a9,xRs (.h 0 U (.v 0 st (.h 0 U (.v 0 Y (.h 0 U (.v 0 st .nil)))))),A,.inr (.inr ⟨v,hr,hf.up⟩),O,Θ⟩
theorem qh(X:XR x R sh ns)(hl:0<ns.length/\ns.length<=100):∀{ds:η Dt}{N M:Nat}{S:HS}{lo:ζ LS}{g:Vf}{b:CH}{bl:Bl}{gv:Str}{d0 d1 d2:Int}{a7 a8 a9:ζ CV},N+ds.length<=1000->(bl.map (·.1)).Nodup->bl.length<=M->M+100*ds.length<=100000->In sh h S lo g b->Lp x R.length sh N S lo g bl gv d0 d1 d2->∃S' lo' g' b' U O e0 e1 e2 Y a8' a9',bM (bnd (.one 7)) wkB ds (wkE h (pD cs ss (.t (R.map Rw.d))) (.e (ns.map .str)) mm bl gv (dD d0 d1 d2) a7 a8 a9) b=ς (.nx (wkE h (pD cs ss (.t (R.map Rw.d))) (.e (ns.map .str)) mm U O (dD e0 e1 e2) Y a8' a9') b')/\In sh h S' lo' g' b'/\Lp x R.length sh (N+ds.length) S' lo' g' U O e0 e1 e2
 |[],N,M,S,lo,g,b,bl,gv,d0,d1,d2,a7,a8,a9,_,_,_,_,A,P=>⟨S,lo,g,b,bl,gv,d0,d1,d2,a7,a8,a9,rfl,A,P⟩
 |d::ds,N,M,S,lo,g,b,bl,gv,d0,d1,d2,a7,a8,a9,hN,hn,hM,hM2,A,P=>by rwa[qb8]at hN hM2;have⟨S1,lo1,g1,b1,bl1,gv1,e0,e1,e2',c8,c9,t1,A1,P1,n1,m1⟩:=zp (cs:=cs) (ss:=ss) (mm:=mm) (a7:=ς (.g d)) (a8:=a8) (a9:=a9) X Θ hl hn hM Θ A P;have⟨S2,lo2,g2,b2,W,gv2,f0,f1,f2,c7,Z,c9',i1,A2,P2⟩:=qh X hl (ds:=ds) (a7:=ς (.g d)) (a8:=c8) (a9:=c9) Θ n1 m1 Θ A1 P1;refine⟨S2,lo2,g2,b2,W,gv2,f0,f1,f2,c7,Z,c9',qu1 (br (δ':=wkE h (pD cs ss (.t (R.map Rw.d))) (.e (ns.map .str)) mm bl gv (dD d0 d1 d2) (ς (.g d)) a8 a9) rfl t1) i1,A2,?_⟩;rw[qb8,show N+(ds.length+1)=N+1+ds.length by lia];exact P2
def Fit(x:Fx)(R:Nat)(sh:Sh)(N:Nat)(S:HS)(g:Vf):Prop:=(∃v,S.res=ς v/\FOk N S.fst)\/Ok x R sh N S g
theorem sf(X:XR x R sh ns)(hl:0<ns.length/\ns.length<=100)(hm:m<=60)(hN:N+m<=1000)(A:In sh h S lo g b)(P:Lp x R.length sh N S lo g [] (qd0 "") (S.pg S.c).dn (S.pg S.c).he (S.pg S.c).sy):∃S' lo' g' b',F54 [.ref h,.g (pD cs ss (.t (R.map Rw.d))),.g (.e (ns.map .str)),I m] b=ς (.g (.bl θ),b')/\In sh h S' lo' g' b'/\Fit x R.length sh (N+m) S' g':=by
 have⟨q0,h0⟩:=A.h1;have pf:=A.pur (ds:=[]) (ah _) (eg (sh:=sh) (S:=S) (lo:=lo) (g:=g));have pg:=A.pur (ds:=[.int (cI S.c)]) (ah _) (bT (sh:=sh) (S:=S) (lo:=lo) (g:=g) S.c);have⟨Y,O,g1,b1,bl1,gv1,e0,e1,e2',a7,a8,a9,Z,A1,W⟩:=qh (cs:=cs) (ss:=ss) (mm:=.int m) (a7:=ψ) (a8:=ψ) (a9:=ψ) X hl (ds:=ay 0 m) (by rw[f8];exact hN) Ξ (qg8 0) (by rw[f8];lia) A P;rw[f8]at W;have j1:=aH (fi:=iR 1 (aCn (eV 3) aNl)) (pt:=.one 7) (g:=wkB) (ds:=ay 0 m) (eT (j:=m) rfl (aR Θ)) Z
 have sl:eSl .v (eMe 3 2 F16 (eV 0) (aCn (eMe 3 1 F18 (eV 0) aNl) aNl)) (ς (eK (.int 1))) (ς (eK (.int 4))) [ς (.ref h),ς (.g (pD cs ss (.t (R.map Rw.d)))),ς (.g (.e (ns.map .str))),ς (I m),ς (.own θ (.dct [])),ς (.g (.str (qd0 ""))),ψ,ψ,ψ,ψ] b=ς (.g (.t [.int (S.pg S.c).dn,.int (S.pg S.c).he,.int (S.pg S.c).sy]),b):=by
  have me:eMe 3 2 F16 (eV 0) (aCn (eMe 3 1 F18 (eV 0) aNl) aNl) [ς (.ref h),ς (.g (pD cs ss (.t (R.map Rw.d)))),ς (.g (.e (ns.map .str))),ς (I m),ς (.own θ (.dct [])),ς (.g (.str (qd0 ""))),ψ,ψ,ψ,ψ] b=ς (.g (S.pg S.c).d,b):=by simp[aCn,aNl,eMe,kCa,eV,lent,CV.old,h0];have U:F18 [.ref h] b=ς (I (cI S.c),b):=pf;rw[U];exact pg
  unfold eSl;rw[me];rfl
 refine⟨Y,O,g1,b1,xR (.v 1 sl (.o 0 j1 .nil)),A1,?_⟩;rcases W with ⟨_,_,o,_⟩|⟨l,_,_,o|⟨q,_,o,_⟩⟩|hr
 .exact .inr o
 .exact .inr o.ok
 .exact .inr o.ok
 .exact .inl hr
end
theorem wA{α:Type}(f:α->Dt)(l:η α)(a c:Nat):∃m:η α,gSl (.e (l.map f)) (ς (a:Int)) (ς (c:Int))=ς (.e (m.map f))/\m.length<=c-a:=by
 refine⟨(l.drop (min a (l.map f).length)).take (min c (l.map f).length-min a (l.map f).length),?_,?_⟩
 .show ς (T.e (((l.map f).drop (HT.sIx (l.map f).length 0 (ς (a:Int)))).take (HT.sIx (l.map f).length (l.map f).length (ς (c:Int))-HT.sIx (l.map f).length 0 (ς (a:Int)))))=_;rw[HT.FW,HT.FW,ze7,List.map_drop]
 .refine qd7 (List.length_take_le _ _) ?_;rcases Nat.le_total a (l.map f).length with h|h
  .rw[qw6 h];exact Nat.sub_le_sub_right (Nat.min_le_left _ _) _
  .rw[Nat.min_eq_right h,zc5 (Nat.min_le_right _ _)];exact qg8 _
abbrev lwE(s0 s1:ζ CV)(nm pg:Dt)(h:Nat)(a5:ζ CV):Sl:=[s0,s1,ς (.g nm),ς (.g pg),ς (.ref h),a5]
abbrev lwB:Fs:=evS (av gc t72) (foN 0 d72.b)
section
variable{x:Fx}{R:η Rw}{sh:Sh}{cs ss:η Hd}{ns:η Str}{h:Nat}{s0 s1:ζ CV}
theorem zq(c:Int)(b:CH):∃(j w:Int)(m:Nat),m<=60/\oMod.g (.int c) (.int 3)=ς (.f (.int j))/\ixV b (.g (.e [.int 15,.int 15,.int 61])) (.int j)=ς (I w)/\oMul.g (.int w) (.int (c/3%1009))=ς (.f (.int (w*(c/3%1009))))/\oDiv.g (.int (w*(c/3%1009))) (.int 1009)=ς (.f (.int m)):=by
 obtain⟨j,w,h1,h2,Z,h4⟩:∃j w:Int,c%3=j/\ixV b (.g (.e [.int 15,.int 15,.int 61])) (.int j)=ς (I w)/\0<=w/\w<=61:=by
  rcases(show c%3=0\/c%3=1\/c%3=2 by lia)with q|q|q
  .exact⟨0,15,q,rfl,Ω,Ω⟩
  .exact⟨1,15,q,rfl,Ω,Ω⟩
  .exact⟨2,61,q,rfl,Ω,Ω⟩
 have O:=qg5 (c/3) (show(1009:Int)≠0 by decide);have W:=qf9 (c/3) (show(0:Int)<1009 by decide);generalize c/3%1009=y at O W;have Y:=Int.mul_nonneg Z O;have p2:w*y<=61*1008:=Int.mul_le_mul h4 Θ O Ω;have⟨m,hm⟩:=qf4 (Int.ediv_nonneg Y (show(0:Int)<=1009 by decide));refine⟨j,w,m,Θ,mdI h1 Ω,h2,by simp[oMul,orO,hJ,kg (i:=w) (j:=y) Θ Θ],?_⟩;have U:w*y/1009=m:=hm;rw[<- U];rfl
theorem qi(X:XR x R sh ns)(w:Nm sh cs ss)(hl:0<ns.length/\ns.length<=100):∀{es:η Int}{N:Nat}{S:HS}{lo:ζ LS}{g:Vf}{b:CH}{a5:ζ CV},N+60*es.length<=1000->In sh h S lo g b->Lp x R.length sh N S lo g [] (qd0 "") (S.pg S.c).dn (S.pg S.c).he (S.pg S.c).sy->(∃ δ' b',bM (bnd (.one 5)) lwB (es.map .int) (lwE s0 s1 (.e (ns.map .str)) (pD cs ss (.t (R.map Rw.d))) h a5) b=ς (.nx δ' b'))\/∃b',bM (bnd (.one 5)) lwB (es.map .int) (lwE s0 s1 (.e (ns.map .str)) (pD cs ss (.t (R.map Rw.d))) h a5) b=ς (.rt (.g (.bl θ)) b')
 |[],N,S,lo,g,b,a5,_,_,_=>.inl ⟨_,b,rfl⟩
 |c::es,N,S,lo,g,b,a5,hN,A,P=>by
  rwa[qb8]at hN;have⟨j,v,m,hm,e1,U,e3,e4⟩:=zq c b;have⟨S1,W,g1,b1,w1,A1,P1⟩:=sf (cs:=cs) (ss:=ss) X hl hm Θ A P;have⟨q1,h1⟩:=A1.h1;have O:bnd (.one 5) (.int c) (lwE s0 s1 (.e (ns.map .str)) (pD cs ss (.t (R.map Rw.d))) h a5)=ς (lwE s0 s1 (.e (ns.map .str)) (pD cs ss (.t (R.map Rw.d))) h (ς (I c))):=rfl;rcases P1 with ⟨z,hr,hf⟩|o
  .have Z:=A1.pur (ds:=[]) (ah _) (iB (sh:=sh) (lo:=W) (g:=g1) hr);have Y:=y8 (rw:=.t (R.map Rw.d)) w hf Θ hr A1;exact .inr ⟨b1,C1 O (xRs (.t 0 e1 (.c 0 U (.t 2 e3 (.t 0 e4 (.v 0 w1 (.h 0 h1 (.v 0 Z (.v 0 Y .nil)))))))))⟩
  .have Z:=A1.pur (ds:=[]) (ah _) (di (sh:=sh) (lo:=W) (g:=g1) o.rs);have⟨S2,g2,b2,f1,A2,D2⟩:=se (rw:=.t (R.map Rw.d)) (ns:=ns) (c/3) w Θ hl.2 o A1;have tl:=qi X w hl (es:=es) (N:=N+m) (a5:=ς (I c)) Θ A2 (.inr (.inl ⟨_,rfl,⟨rfl,rfl,rfl⟩,.inl D2⟩));have st:lwB (lwE s0 s1 (.e (ns.map .str)) (pD cs ss (.t (R.map Rw.d))) h (ς (I c))) b=ς (.nx (lwE s0 s1 (.e (ns.map .str)) (pD cs ss (.t (R.map Rw.d))) h (ς (I c))) b2):=xRs (.t 0 e1 (.c 0 U (.t 2 e3 (.t 0 e4 (.v 0 w1 (.h 0 h1 (.v 0 Z (.v 0 f1 .nil))))))));rw[qa3,br O st];exact tl
end
theorem main(ns:η Int)(hns:ns.length<=63):∃ch',FF gc t73 [.g (.e (ns.map .int))] []=ς (.g (.bl θ),ch'):=by
 have⟨bx,cs,ss,inc,W,hw⟩:=wx (ch:=[]) ns;have⟨c0,g0⟩:=dB (ch:=[]) ns 0;have⟨c3,g3⟩:=dB (ch:=[]) ns 3;have⟨c4,g4⟩:=dB (ch:=[]) ns 4;have⟨xs,hx1,hx2,hx3⟩:=mG (ch:=[]) c0;have⟨sm,hs1,hs2⟩:=wA Dt.int ns 5 25;have⟨es,hes1,hes2⟩:=wA Dt.int ns 25 35;have⟨la,hla,fla⟩:=lj (ch:=[]) (c3%2147483629) (xs:=bx) (by intro e;have:=W.b4;rw[e]at this;cases this);have⟨R,hR1,hR2,hR3,hR4,hR⟩:=zm (ch:=[]) W sm Θ la hla;have hcutN:gSl (.e (xs.map .str)) (ς 5) (ς 11)=ς (.e (((xs.drop 5).take (11-5)).map .str)):=qe Dt.str xs 5 11 Θ Θ;have hN6:((xs.drop 5).take (11-5)).Nodup:=(qp7 _ _).nodup ((List.drop_sublist _ _).nodup hx3);have hN7:∀s∈(xs.drop 5).take (11-5),s∈xs:=λs hs=>List.mem_of_mem_drop (qv4 hs)
 have⟨bg,ks,hbg,hk1,hk2,hC⟩:=DF (ch:=[]) (cs:=cs) (ss:=ss) (R:=R) c4 hN6 (by simp[hx2]) ⟨hR1.1,Θ⟩;have P:Pr cs ss R bg ks (inc.map .int) xs:=⟨(by intro e;have:=W.c0.1;rw[e]at this;cases this),(by intro e;have:=W.s0.1;rw[e]at this;cases this),(by have:=W.c0.2;have:=W.s0.2;lia),W.nd,W.cv,λh hh=>(by have:=W.sv h hh;lia),hR1,hR2,hR3,hbg,hk1,λk hk=>⟨(hk2 k hk).1,(hk2 k hk).2.1,λs hs=>hN7 s ((hk2 k hk).2.2 s hs)⟩,λd hd=>by have⟨i,hi,rfl⟩:=qb9.mp hd;exact W.inc i hi⟩;have⟨L,A0,mk⟩:=DD P;have O0:=FG P;obtain⟨Y,hY⟩:∃Y:Dt,Y=.e (ns.map .int):=⟨_,rfl⟩;show ∃ch',F72 [.g (.e (ns.map .int))] []=ς (.g (.bl θ),ch');rw[<- hY]at hw g0 g3 g4 hs1 hes1 ⊢;obtain⟨Wd',hWd⟩:∃Wd':Dt,Wd'=wdD bx cs ss inc:=⟨_,rfl⟩;have w0:∀ch,ixV ch (.g Wd') (.int 0)=ς (.g (.e (bx.map .str))):=λch=>by rw[hWd];rfl
 have w3:eIx (eV 1) (eK (.int 3)) [ς (.g Y),ς (.g Wd'),ς (.g (.e (xs.map .str))),ς (.g (pgm cs ss R)),ψ,ψ] []=ς (.g (.e (inc.map .int)),[]):=by rw[hWd];rfl
 rw[<- hWd]at hw hR
 have sl1:eSl .v (eV 0) (ς (eK (.int 5))) (ς (eK (.int 25))) [ς (.g Y),ς (.g Wd'),ς (.g (.e (xs.map .str))),ψ,ψ,ψ] []=ς (.g (.e (sm.map .int)),[]):=by have h:gSl Y (ς 5) (ς 25)=ς (.e (sm.map .int)):=hs1;rwa[eSl,fOp,eV,qd2,qf3,lent,eK,bR,vw,h,fin,T.d,qa0,qa9]
 have sN:eSl .v (eV 2) (ς (eK (.int 5))) (ς (eK (.int 11))) [ς (.g Y),ς (.g Wd'),ς (.g (.e (xs.map .str))),ς (.g (pgm cs ss R)),ψ,ψ] []=ς (.g (.e (((xs.drop 5).take (11-5)).map .str)),[]):=by generalize Dt.e (xs.map .str)=Q at hcutN ⊢;rwa[eSl,fOp,eV,qd2,qf3,lent,eK,bR,vw,hcutN,fin,T.d,qa0,qa9]
 have g4':eCa 2 F1 (aCn (eV 0) (aCn (eK (.int 4)) aNl)) [ς (.g Y),ς (.g Wd'),ς (.g (.e (xs.map .str))),ς (.g (pgm cs ss R)),ψ,ψ] []=ς (I c4,[]):=fC (cs:=[.g Y,I 4]) rfl ⟨rfl,rfl⟩ g4;have kc:eCa 3 F21 (aCn (eV 3) (aCn (eCa 2 F1 (aCn (eV 0) (aCn (eK (.int 4)) aNl))) (aCn (eSl .v (eV 2) (ς (eK (.int 5))) (ς (eK (.int 11)))) aNl))) [ς (.g Y),ς (.g Wd'),ς (.g (.e (xs.map .str))),ς (.g (pgm cs ss R)),ψ,ψ] []=ς (.g (cod bg ks),[]):=fC (bK rfl (bK g4' (b9 sN))) ⟨rfl,rfl⟩ hC;have kH:=mk (aCn (eV 3) (aCn (eCa 3 F21 (aCn (eV 3) (aCn (eCa 2 F1 (aCn (eV 0) (aCn (eK (.int 4)) aNl))) (aCn (eSl .v (eV 2) (ς (eK (.int 5))) (ς (eK (.int 11)))) aNl)))) (aCn (eIx (eV 1) (eK (.int 3))) aNl))) [ς (.g Y),ς (.g Wd'),ς (.g (.e (xs.map .str))),ς (.g (pgm cs ss R)),ψ,ψ] (bK rfl (bK kc (b9 w3)))
 have sl2:eSl .v (eV 0) (ς (eK (.int 25))) (ς (eK (.int 35))) (lwE (ς (.g Y)) (ς (.g Wd')) (.e (xs.map .str)) (pgm cs ss R) 0 ψ) L=ς (.g (.e (es.map .int)),L):=by have h:gSl Y (ς 25) (ς 35)=ς (.e (es.map .int)):=hes1;rwa[eSl,fOp,eV,qd2,qf3,lent,eK,bR,vw,h,fin,T.d,qa0,qa9]
 have fi:iE (eSl .v (eV 0) (ς (eK (.int 25))) (ς (eK (.int 35)))) (lwE (ς (.g Y)) (ς (.g Wd')) (.e (xs.map .str)) (pgm cs ss R) 0 ψ) L=ς (es.map .int,L):=by unfold iE;rw[sl2];rfl
 have pre:=λ{g':η An}{L':η Prop}(z:Oa g' L')=>Oa.v 0 hw (.v 0 g0 (.v 0 hx1 (.v 0 sl1 (.v 0 g3 (.c 0 (w0 []) (.v 0 fla (.v 0 hR (.v 0 kH z))))))))
 rcases qi (s0:=ς (.g Y)) (s1:=ς (.g Wd')) (a5:=ψ) P.xr (FE P) Θ (es:=es) (N:=10) Θ A0 (.inl ⟨rfl,rfl,O0,rfl,rfl,rfl,rfl⟩)with ⟨δ',b',e⟩|⟨b',e⟩
 .exact⟨b',xR (pre (.o 0 (aH (pt:=.one 5) (g:=lwB) fi e) .nil))⟩
 .exact⟨b',xR (pre (.o 0 (aH (pt:=.one 5) (g:=lwB) fi e) .nil))⟩
end L2
open PySem PySem.W PyProof.Rows in
set_option maxRecDepth 100000 in
set_option maxHeartbeats 0 in
theorem PySem.Challenge.cw_dimhouse_k73_coming_up_holds : PySem.Challenge.rw_dimhouse_k73_coming_up.Holds := by
 w_on; refine holds_law P73H.ws λsaid => ?_
 refine holds_open (q := P73H.seen) (loose := []) (Xt := λs => xlAt P73H.seen [] s && recOk (RowW.records (OpenRow.toRowW PySem.Challenge.rw_dimhouse_k73_coming_up.row)) s) (XP := XL P73H.seen []) (Yf := Hook.obs P73H.hook) (Ya := Hook.val P73H.hook) (YP := Hook.says P73H.hook) (N := 8500) ?hl (Hook.of P73H.hook) (Hook.keeps P73H.hook) (λs e => xl_of s (Bool.and_eq_true_iff.mp e).1) XL.keeps (by rfl) (by rfl) (by rfl) (λs e => recFacts_of (Bool.and_eq_true_iff.mp e).2) (by rfl) (by first | assumption | decide +kernel) (by decide +kernel) ⟨rfl, rfl, rfl, rfl, rfl, by decide +kernel⟩ ?hw ?hc
 case hl => exact LeftO.of_split "special-get-raises" λw => P73H.map_two (ZH.tp3 (P73H.ra_false w) (P73H.rb_false w) (P73H.rc_false w)) (ZH.tp3 (P73H.ra_true w) (P73H.rb_true w) (P73H.rc_true w))
 case hw => w_witness2
 delta P73H.hook
 k_fill
 refine L2.zwalk (l:=PySem.Challenge.rw_dimhouse_k73_coming_up) (x:="_law_script") L2.L L2.gc L2.main ⟨rfl,rfl,rfl⟩ ?R rfl rfl (λw h Y=>PySem.W.kIn_of Y) (λw=>by kernel_rfl) ?C
 case R=>exact ⟨rfl,by decide +kernel,by decide +kernel⟩
 case C=>intro w;kernel_rfl
