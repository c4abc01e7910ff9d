import PyProof.Rows.All
import KE.KNest
import Wide.All
import OpenK.AllK
import Wide.FinOn
import Lean
import PyProof.EqAt
import PyProof.EqKinds
import PyProof.TupleCall
import PySem.Challenge.RW_dimhouse_k72_no_failing
open Array renaming length_toList→qq2,getElem?_eq_getElem→qx5,getElem?_toList→zb7
open BEq renaming comm→qz2
open Bool renaming and_eq_true→qa1,false_ne_true→qb6,and_eq_true_iff→qc1,or_eq_true→qf0,false_eq_true→qg6,not_eq_true'→qi4,and_true→qn1,eq_iff_iff→qr7,and_eq_false_imp→qt4,or_eq_false_iff→qu4,and_assoc→qx1,true_and→qz1,false_and→zd0,and_false→zd1,false_or→ze2,not_true→ze5
open Eq renaming trans→ze6
open False renaming elim→qk2
open ForInStep renaming yield→qo2
open Function renaming comp_def→qb1
open Inhabited renaming default→qz3
open Int renaming emod_nonneg→qg1,emod_lt_of_pos→qg7,eq_ofNat_of_zero_le→qh9,toNat_natCast→qk3,zero_add→qr4,fdiv_eq_ediv_of_nonneg→qv6
open LawfulMonad renaming pure_bind→qy5
open Lean renaming maxHeartbeats→zd4
open List renaming length_map→qa2,map_cons→qa3,mem_of_getElem?→qa4,getElem?_map→qa9,replicate→qb0,size_toArray→qb5,mem_map→qb8,mem_cons→qb9,length_cons→qc2,length_append→qc4,getD_eq_getElem?_getD→qc6,nodup_cons→qc8,all_eq_true→qc9,getElem?_cons_succ→qd1,map_map→qd2,map_append→qd3,all_cons→qd4,getElem?_eq_none→qd6,append_assoc→qd8,range→qd9,getElem?_append_right→qe1,mem_append_right→qe2,getElem?_set_self→qe3,mem_cons_of_mem→qe4,map_congr_left→qe8,mem_range→qf2,nodup_append→qf4,append_nil→qf6,replicate_succ→qf8,length_nil→qf9,map_nil→qg0,isEmpty_iff→qg2,getElem?_cons_zero→qg3,mem_append→qg9,lookup→qh3,contains_iff_mem→qh5,getElem?_append_left→qi5,length_singleton→qi7,mem_cons_self→qi9,lookup_cons→qj5,flatten_cons→qk5,ext_getElem?→qk6,find?_cons→qk7,any_cons→ql2,pairwise_cons→ql5,length_filter_le→ql6,length→ql7,nil_append→qm5,length_take→qn3,zip_cons_cons→qn9,dropLast_concat_getLast→qo0,zip_append→qo4,take_sublist→qo7,not_mem_nil→qp7,cons_append→qp8,getElem_mem→qp9,nodup_range→qq0,filterMap_cons→qq1,getElem?_eq_getElem→qq6,getElem?_take_of_lt→qq9,map_set→qr3,mem_filter→qr5,getElem?_replicate→qr9,foldl_cons→qs0,find?→qt1,mem_iff_getElem?→qt5,zipWith→qt6,all_nil→qt7,length_drop→qt9,eq_nil_of_length_eq_zero→qu0,drop_length→qu1,map_fst_zip→qu2,getElem?_set_ne→qu3,mem_filterMap→qv9,mem_singleton→qw3,lookup_append→qw5,nodup_nil→qw9,getElem?_zip_eq_some→qx0,drop_eq_getElem_cons→qx2,forIn_nil→qx6,length_range→qy0,range_succ_eq_map→za3,filter_eq_nil_iff→za6,of_mem_zip→zb4,getElem?_zipWith→zc3,foldl→zc8,all_map→zf4,map→zf7
open List.Pairwise renaming map→qm6,nil→qx8
open List.cons renaming injEq→qm4
open Nat renaming le_succ_of_le→qa7,ne_of_lt→qc5,lt_of_lt_of_le→qc7,le_trans→qd7,add_sub_cancel_left→qe9,zero_le→qg4,ne_of_gt→qi6,lt_of_le_of_lt→qj0,lt_or_ge→qj9,lt_trans→ql3,lt_irrefl→qm7,le_succ→qn0,not_lt→qn6,lt_succ_self→qp4,succ_le_succ→qp5,le_of_lt→qq7,le_refl→qs5,lt_trichotomy→qy3,le_add_right→qz8,add_zero→zc4,zero_add→zc5,reduceLT→zc6,add_comm→zf3,sub_self→zf5
open Ne renaming symm→qj7
open Option renaming bind_some→qa0,map_some→qb2,map_eq_some_iff→qe0,isNone_iff_eq_none→qh0,bind_eq_some_iff→qn2,join_some→qp6,isSome_iff_exists→qq8,isSome_map→qx7,getD_none→qz6,getD_some→qz7,map→zc9
open Option.some renaming inj→qd5,injEq→qx9
open PyProof.Rows renaming slot_tuple_getitem→qm2,callWith_type1→qo1,subscriptTail_builtinR→za2,AllBare→za9,subscriptTail→ze0,envOfC→zf9
open PySem renaming sizeLine→qa5,wpAny_pure→qa6,Shared→qa8,starEach→qb3,sizeLine_eq→qb7,Program→qe5,mainGlobals→qe6,compareOp→qe7,wpAny_newObj_type→qf3,bootBuiltins→qf5,foldedSetIterable→qh4,backTo→qh6,binaryOp→qh7,attributeBase→qh8,swapsWith→qi0,assignEach→qi2,keywordEach→qi3,wpAny_typeNameOfWhole_itemiter→qi8,Builtin→qj2,wpAny_field→qj3,wpAny_call_entry→qj4,wpAny_callSpecial?_slot→qj8,wpAny_bind→qk0,sysModules→qk1,Around→ql0,wpAny_Call_Name_kw→ql1,wpAny_setField_rec→ql4,wpAny_typeNameOf_itemiter→qm0,wpAny_passesOwn→qm1,wpAny_holding→qm8,FuncData→qm9,wpAny_mono→qn4,tupleKind_room_in1→qn7,backToKw→qo6,holding→qo9,Operator→qp3,wpAny_pyIter_tuple→qr6,getattributeRaised→qs1,wpAny_isOneOf_itemiter→qs4,wpAny_truthy_bool→qs7,sliceBounds→qs8,wpAny_dictEntries→qs9,wpAny_notOrdered_dict→qt2,noFill_tuple_add→qt8,swapsWithSole→qu5,plainId_quiet→qu7,call_meets→qu8,letOwnedTupleGo→qu9,getMethod→qv0,codeAny→qv1,codeAny_builtin→qv3,wpAny_updateSeq→qv4,rawInt→qv8,NameKind→qw1,concat_meets→qw2,standAt→qw6,Keyword→qw8,wpAny_seqItems→qx3,firstArgMember→qx4,wpAny_pyNext_tuple_item→qy7,behindInMarks→qy8,seq_tuple_add→qy9,assign→qz4,pyNext→qz5,wpAny_pyNext_list_item→za0,wpAny_pyNext_tuple_end→za1,tupleKind→za8,wpAny_execs_nil→zb0,PassesOwn→zb1,wpAny_pyNext_list_end→zb2,codeAny_mono→zb3,wpAny_typeOf→zb5,call_meetsIn→zb8,wpAny_dictEpoch→zc1,builtinLookup_eq_fast→zc2,callWith→zc7,wpAny_setField→zd2,callerA→zd3,wpAny_standAt→zd7,swappedStores→zd8,bindArgs→zd9,seqIndex?→ze1,compPost→ze3,comprehension→ze4,builtinsNs→ze7,valueAt→ze8,IsPart→zf1,seqIndex_neg→zf2,BindsTo→zf8,getItem→zg0,updateSeq→zg1
open PySem.Around renaming under_plainId→qp0,under→ze9
open PySem.AutoSeq1 renaming wpAny_loadPart'→qr1
open PySem.Builtin renaming bitAnd→qw7
open PySem.Builtin.Dict renaming updateFrom→qz0,showsAll→zc0
open PySem.Builtin.Dict_items renaming ownsTuple→qn8,ownedTupleFields→qq4,ownedTupleIsFree→qq5,pairFromOwner→qs2
open PySem.Builtin.List renaming listExtendWith→qo3,listTooLong→qr0,listSameRef→qy4,listItems→za5
open PySem.Builtin.Slice renaming slicePlaces→ql8,sliceAdjust→qp1,sliceApplied→qv7
open PySem.Builtin.SmallTypes renaming nextOf→ql9
open PySem.Builtin.Str renaming occurrences→qr8
open PySem.Builtin.Tuple renaming tupleExact→qm3
open PySem.Calls renaming callWith_builtin→qs3,Name_function_global→qv5,spliced_cons→qw0
open PySem.Code renaming isFrame→zf0
open PySem.F renaming slot_dict_itemiterator_next→qh2,slot_tuple_iterator_next→qk8,slot_tuple_getattribute→qp2,slot_list_getattribute→qr2,args_dict_itemiterator_next_1→qt0,entry_dict_itemiterator_next→qt3,args_tuple_iterator_next_1→qu6,entry_tuple_iterator_next→qv2,slot_dict_items_iter→za4
open PySem.Heap renaming lt_size→qb4,get?_push_size→qc0,get?_update_self→qf7,SameBut→qg5,get?_update_other→qi1,size_push→qn5,get?_push_of_some→qz9
open PySem.Heap.SameBut renaming update→qq3
open PySem.NameKind renaming free→qh1
open PySem.Obj renaming mapSeq→qk4
open PySem.SeqAt renaming EqAt→qf1,RcAt→qy1,RcNeAt→zb9
open PySem.SeqAt.EqAt renaming of_refs→qw4,same→zb6
open PySem.SeqAt.RcAt renaming lists_lengths→qy2
open PySem.Str renaming ofString→qd0,ofString_eq_toList→za7
open PySem.Txt renaming join→zf6
open PySem.Value renaming ref→qc3,none→qg8,type→qo5,bool→qs6,int→zd5,str→zd6
open Sum renaming inr→qj1,inl→qj6
open Sum.inr renaming injEq→qo8,inj→qy6
open True renaming intro→qk9
set_option Elab.async false
set_option linter.all false
set_option compiler.extract_closed false
local macro_rules|`(tactic|rcases $h:ident)=>`(tactic|split at $h:ident<;>first|(cases $h:ident;done)|skip)
local macro_rules|`(command|omit x)=>`(command|set_option tactic.hygienic true)
local macro_rules|`(‹$t›)=>`(by simpa using $t)
local macro_rules|`(tactic|rwa[$r,*]$(l)?)=>do
 let a:=r.getElems.map λx=>Lean.mkNode ``Lean.Parser.Tactic.simpLemma #[Lean.mkNullNode,x.raw[0],x.raw[1]]
 `(tactic|simp only[$a,*]$(l)?)
open Lean Parser Tactic in
local macro_rules|`(tactic|have⟨$p,*⟩:=$e)=>do
 let w k a:=mkNode ``rcasesPatLo #[mkNode ``rcasesPatMed #[mkNullNode #[mkNode (`Lean.Parser.Tactic.rcasesPat++k) a]],mkNullNode]
 `(tactic|obtain $(⟨((←`(⟨$p,*⟩)).raw.rewriteBottomUp λx=>if x.isIdent then w `one #[x] else if x.isOfKind ``Term.hole then w `ignore x.getArgs else if x.isOfKind ``Term.anonymousCtor then w `tuple x.getArgs else x)[0]⟩):rcasesPatMed:=$e)
open Lean in
def mL0(s:String):=(s.splitOn " ").toArray.map λs=>mkNode ``Parser.Tactic.simpLemma #[mkNullNode,mkNullNode,mkIdent (`L2++s.toName)]
def mD0:="lent vw vwO bw ixV ixO asI dO cu qo vws tB bList fL bLen oAdd oSub orO eM tm oEq oNe gEq eqdi eqds eqdb eqdn eqdx eqdy eqdz eqdw oLt oGt wV oIs oIsN gIs fin T.d al dats CV.sol CV.kp CV.old cO ip cN bY im getV cX uF finL Ch hb_1 hb_2 hb_3 hb_4 hb_5 hb_6 hb_7 hb_8 hb_9 EE EF EG ofS"
namespace ZH
open PySem PySem.W PyProof.Rows
def trees:List Obj→BT→Nat→Option (BT×Nat)
  | [],t,n=>some (t,n)
  | o::r,t,n=>match ((t.ins n o).get n).isSome with
    | true=>trees r (t.ins n o) (n+1)
    | false=>none
def topRunT (tb:String→Option Builtin) (p:Program) (w:World) (n₀:Nat) (ann:Option Value):Nat→SharedT→Thread→Option SharedT
  | 0,_,_=>none
  | n+1,s,t=>match through t with
    | true=>some s
    | false=>match stepOk n₀ ann t with
      | false=>none
      | true=>match stepT (denote tb) p w s t with
        | some (s',t')=>topRunT tb p w n₀ ann n s' t'
        | none=>none
def toT (s:Shared):Option SharedT:=(trees s.heap.objs.toList .nil 0).map fun q=>⟨q.1,q.2,s.heap.life,s.gens,s.drawn,s.toks,s.os⟩
section
variable {tb:String→Option Builtin} {p:Program} {w:World} {n₀:Nat} {ann:Option Value}
theorem topRun_of:∀ {n:Nat} {s s':SharedT} {t:Thread},topRunT tb p w n₀ ann n s t=some s'→topRun tb p w n₀ ann n s.abs t=some s'.abs
  | 0,_,_,_,h=>by cases h
  | n+1,s,s',t,h=>by
    unfold topRunT at h
    unfold topRun
    cases he:through t with
    | true=>rw [he] at h;cases h;rfl
    | false =>
      rw [he] at h
      cases hk:stepOk n₀ ann t with
      | false=>rw [hk] at h;cases h
      | true =>
        rw [hk] at h
        cases hs:stepT (denote tb) p w s t with
        | none=>rw [hs] at h;cases h
        | some r=>obtain ⟨s₂,t₂⟩:=r;rw [hs] at h;rw [stepT_spec hs];exact topRun_of h
theorem trees_abs {life:Life}:∀ {l:List Obj} {t t':BT} {n n':Nat},trees l t n=some (t',n')→(absHeap t' n' life).objs.toList=(absHeap t n life).objs.toList++l
  | [],t,t',n,n',h=>by cases h;simp
  | o::r,t,t',n,n',h=>by
    unfold trees at h
    cases q:((t.ins n o).get n).isSome with
    | false=>rw [q] at h;cases h
    | true =>
      rw [q] at h
      rw [trees_abs h,absHeap_ins q]
      show ((absHeap t n life).objs.push o).toList++r=_
      rw [Array.toList_push,List.append_assoc];rfl
theorem toT_abs {s:Shared} {sT:SharedT} (h:toT s=some sT):sT.abs=s:=by
  obtain ⟨⟨heap,life⟩,gens,drawn,toks,os⟩:=s
  unfold toT at h
  obtain ⟨⟨t,n⟩,h1,rfl⟩:=Option.map_eq_some_iff.mp h
  have e:=trees_abs (life:=life) h1
  have e0:(absHeap BT.nil 0 life).objs.toList=[]:=rfl
  rw [e0,List.nil_append] at e
  have e1:(absHeap t n life).objs=heap:=Array.toList_inj.mp e
  show Shared.mk (absHeap t n life) gens drawn toks os=_
  have e2:absHeap t n life=⟨heap,life⟩:=by
    have:absHeap t n life=⟨(absHeap t n life).objs,life⟩:=rfl
    rw [this,e1]
  rw [e2]
def tp {γ:Type} (p:Program) (w w':World) (N:Nat) (A:Shared→Shared→γ):Option γ:=(fencedOpening treeTable p w N).bind fun s=>(toT s).bind fun sT=>(topRunT treeTable p w' s.heap.objs.size (s.heap.nsMap mainGlobals "__annotations__") N sT (topStub p)).map fun z=>A s z.abs
def ckT (p:Program) (s₀ s₁:Shared):Bool:=(s₀.heap.isNs mainGlobals&&s₀.gens.size==0)&&(staticsOk (importedModules p.main.body) s₀.heap s₁.heap&&namesBound p s₁.heap&&gensDone s₁&&laidKept s₀.heap s₁.heap)
theorem tp3 {w':World} {N:Nat} {α β γ:Type} {A:Shared→α×β} {C:Shared→γ} {a:α} {b:β} {c:γ} (h1:tp p w w' N (fun s z=>(ckT p s z,(A z).1))=some (true,a)) (h2:tp p w w' N (fun _ z=>(A z).2)=some b) (h3:tp p w w' N (fun _ z=>C z)=some c):(fencedOpening treeTable p w N).map (fun s₀=>(topFrom treeTable p w' N s₀).map fun z=>(A z,C z))=some (some ((a,b),c)):=by
  unfold tp at h1 h2 h3
  obtain ⟨s,q1,h1⟩:=Option.bind_eq_some_iff.mp h1
  obtain ⟨sT,q2,h1⟩:=Option.bind_eq_some_iff.mp h1
  obtain ⟨z,q3,h1⟩:=Option.map_eq_some_iff.mp h1
  rw [q1,Option.bind_some,q2,Option.bind_some,q3] at h2 h3
  have e2:(A z.abs).2=b:=Option.some.inj h2
  have e3:C z.abs=c:=Option.some.inj h3
  obtain ⟨k1,k2⟩:=Prod.mk.inj h1
  have hr:=topRun_of q3
  rw [toT_abs q2] at hr
  obtain ⟨k3,k4⟩:=Bool.and_eq_true_iff.mp k1
  rw [q1]
  show some ((topFrom treeTable p w' N s).map _)=_
  unfold topFrom
  rw [k3]
  dsimp only
  rw [hr,Option.bind_some,k4]
  show some (some (A z.abs,C z.abs))=_
  rw [e3,← k2,← e2]
end
end ZH
namespace P72H
open PySem PySem.W PyProof.Rows
section
local macro_rules | `(tactic| o_head $_) => `(tactic| exact (by assumption : ∀ p : Prop, p) _)
set_option maxRecDepth 100000 in
set_option maxHeartbeats 0 in
theorem pre (h0:∀ p:Prop,p):PySem.Challenge.rw_dimhouse_k72_no_failing.row.Holds:=by
  k_head
end
def seen:Program:={PySem.Challenge.pw_dimhouse_k72_no_failing with main:={PySem.Challenge.pw_dimhouse_k72_no_failing.main with body:=[0,2,3,4,5,7,9,10,11,12,13,15,17,19,21,22,23,24,25,26,27,28,29,30,31,32,33,34,35,36].filterMap fun i=>PySem.Challenge.pw_dimhouse_k72_no_failing.main.body[i]?}}
noncomputable abbrev hook:Hook:=kHook P72H.pre.heap_1 [2,3,15,17,18,20,21,22,25,26,27,29,30,32,33,34,36,37,39,40,48,50,51,53,54,55,57,58,60,61,62,64,65,67,68,69,71,72,74,75,76,77,78,79,80,90,92,93,95,96,97,99,100,102,103,104,105,106,107,108,111,114,115,116,118,119,121,122,123,126,127,128,130,131,133,134,142,145,146,147,149,150,152,153,154,156,157,159,160,161,163,164,166,167,168,170,171,173,174,175,177,178,180,181,182,184,185,187,188,189,191,192,194,195,196,198,199,201,202,203,205,206,208,209,210,212,213,215,216,217,219,220,222,223,224,226,227,229,230,231,233,234,236,237,238,239,240,241,242,252,255,256,257,259,260,262,263,264,266,267,269,270,271,273,274,276,277,278,280,281,283,284,285,287,288,290,291,292,294,295,297,298,299,301,302,304,305,306,308,309,311,312,313,315,316,318,319,320,322,323,325,326,327,329,330,332,333,334,336,337,339,340,341,343,344,346,347,348,350,351,353,354,355,357,358,360,361,362,364,365,367,368,369,371,372,374,375,376,378,379,381,382,383,385,386,388,389,390,392,393,395,396,397,399,400,402,403,404,406,407,409,410,411,412,413,414,415,425,428,429,430,432,433,435,436,437,439,440,442,443,444,446,447,449,450,451,453,454,456,457,458,460,461,463,464,465,467,468,470,471,472,474,475,477,478,479,481,482,484,485,486,488,489,491,492,493,495,496,498,499,500,502,503,505,506,507,509,510,512,513,514,516,517,519,520,521,523,524,526,527,528,530,531,533,534,535,536,537,538,539,542,544,545,547,548,549,551,552,554,555,556,559,560,561,563,564,566,567,568,570,571,573,574,575,578,579,580,582,583,585,586,587,589,590,592,593,594,597,598,599,602,603,604,606,607,609,610,611,613,614,616,617,618,621,622,623,626,627,628,630,631,633,634,635,637,638,640,641] (fun _=>by kernel_rfl)
abbrev pg:=PySem.Challenge.rw_dimhouse_k72_no_failing.row.prog
abbrev oA (s:Shared):=openSeen seen [] (importedModules pg.main.body) (fun s=>xlAt seen [] s&&recOk (RowW.records (OpenRow.toRowW PySem.Challenge.rw_dimhouse_k72_no_failing.row)) s) true s
theorem map_two {α β γ:Type} {x:Option α} {f:α→β} {g:α→γ} {a:β} {b:γ} (h:x.map f=some a) (h':x.map g=some b):x.map (fun s=>(f s,g s))=some (a,b):=by
  cases x with
  | none=>cases h
  | some s=>simp only [Option.map_some,Option.some.injEq] at h h' ⊢;rw [h,h']
set_option maxRecDepth 100000
set_option maxHeartbeats 0
abbrev tq {γ:Type} (b:Bool) (w:World) (A:Shared→Shared→γ):Option γ:=ZH.tp pg w (w.withFollow "special-get-raises" b) 8500 A
abbrev gd:=openGood seen []
theorem ra_false (w:World):tq false w (fun s z=>(ZH.ckT pg s z,(oA z).1))=some (true,gd.1):=by
  kernel_rfl
theorem rb_false (w:World):tq false w (fun _ z=>(oA z).2)=some gd.2:=by
  kernel_rfl
theorem rc_false (w:World):tq false w (fun _ z=>Hook.obs hook z)=some (Hook.val hook (w.withFollow "special-get-raises" false)):=by
  kernel_rfl
theorem ra_true (w:World):tq true w (fun s z=>(ZH.ckT pg s z,(oA z).1))=some (true,gd.1):=by
  kernel_rfl
theorem rb_true (w:World):tq true w (fun _ z=>(oA z).2)=some gd.2:=by
  kernel_rfl
theorem rc_true (w:World):tq true w (fun _ z=>Hook.obs hook z)=some (Hook.val hook (w.withFollow "special-get-raises" true)):=by
  kernel_rfl
theorem ws:PySem.Challenge.rw_dimhouse_k72_no_failing.wellSaid=true:=by
  kernel_rfl
end P72H
set_option maxRecDepth 100000
set_option maxHeartbeats 4000000
set_option genSizeOf false
set_option genInjectivity false
set_option bootstrap.genMatcherCode false
set_option tactic.hygienic false
open PySem.W renaming Frag->xA9,findIn->xB9,kia_one->xC9,keepIn->xD9,nsIn->xE9,emptyDict->xF9,instObj->xG9,isFn->xH9,kitOne->xI9,plainGet->xJ9,mg_of->xK9,lookIn->xL9,hasDictIn->xM9,kitx_dict->xN9,methodObj->xO9,plainGet_of->xP9,plainOver->xQ9,takerIn->xR9,makesIn->xS9,methodCall_KW->xT9,kitx_list->xU9,callWith_K->xV9,callWith_K0->xW9
open PySem renaming Addr->J4,World->J5,Stmt->J6,Expr->J8,Scope->J9
noncomputable section
theorem χ{p:Prop}(h:p:=by decide +kernel):p:=h
theorem Ψ{p:Prop}(h:p:=by walk_at "x"):p:=h
theorem Θ{p:Prop}(h:p:=by lia):p:=h
theorem Ξ{p:Prop}(h:p:=by simp):p:=h
theorem Ω{p:Prop}(h:p:=by decide):p:=h
open Option renaming some->ς,none->ψ
open Bool renaming true->θ,false->ξ
abbrev η:=@List
abbrev ζ:=@Option
theorem gX{α:Type _}{l:η α}{i:Nat}{a:α}(h:l[i]?=ς a):∃z:i<l.length,l[i]=a:=List.getElem?_eq_some_iff.mp h
open PySem PySem.Spec PyProof.Rows in abbrev gN := @List.getElem?_set_ne
open PySem PySem.Spec PyProof.Rows in abbrev gP := @Heap.get?_push_of_some
open PySem PySem.Spec PyProof.Rows in abbrev wB := @wpAny_bind
open PySem PySem.Spec PyProof.Rows in abbrev gL := @List.getElem?_append_left
open PySem PySem.Spec PyProof.Rows in abbrev gR := @List.getElem?_append_right
open PySem PySem.Spec PyProof.Rows in abbrev gQ := @List.getElem?_eq_getElem
open PySem PySem.Spec PyProof.Rows in abbrev nL := @Nat.le_refl
set_option maxRecDepth 100000
set_option maxHeartbeats 4000000
namespace L2
open PySem PySem.Spec PyProof.Rows
abbrev Key:=Sum Int Str
noncomputable def jd:Key->Value->Bool
 |.inl k,v=>Value.isInt k v
 |.inr x,v=>Value.isStrOf x v
noncomputable def keyH(w:J5):Key->Int
 |.inl k=>hashInt k
 |.inr x=>hashStr w x
theorem aC:∀{k:Key}{v:Value},jd k v=θ->(∃i t,k=qj6 i/\v=zd5 i t)\/(∃x t,k=qj1 x/\v=zd6 x t)
 |.inl i,v,h=>by have⟨t,e⟩:=Value.isInt_shape (k:=i) (v:=v) h;exact .inl ⟨i,t,rfl,e⟩
 |.inr x,v,h=>by have⟨t,e⟩:=Value.isStrOf_shape (x:=x) (v:=v) h;exact .inr ⟨x,t,rfl,e⟩
theorem pV(i:Int)(t:Tok):jd (.inl i) (.int i t)=θ:=by simp[jd,Value.isInt]
theorem pW(x:Str)(t:Tok):jd (.inr x) (.str x t)=θ:=by simp[jd,Value.isStrOf]
theorem zL(a b:Int):decide ((qj6 a:Key)=qj6 b)=(a==b):=by
 by_cases e:a=b
 .subst e;simp
 .have h:¬ (qj6 a:Key)=qj6 b:=λq=>e (qj6.inj q)
  rw[decide_eq_false h];exact(beq_eq_false_iff_ne.mpr e).symm
theorem zM(a b:Str):decide ((qj1 a:Key)=qj1 b)=decide (a=b):=by
 by_cases e:a=b
 .subst e;simp
 .have h:¬ (qj1 a:Key)=qj1 b:=λq=>e (qy6 q)
  rw[decide_eq_false h,decide_eq_false e]
theorem zN(a:Int)(b:Str):decide ((qj6 a:Key)=qj1 b)=ξ:=decide_eq_false (λq=>nomatch q)
theorem zO(a:Str)(b:Int):decide ((qj1 a:Key)=qj6 b)=ξ:=decide_eq_false (λq=>nomatch q)
def ao(prog:qe5)(w:J5):PySem.KeyKind prog w Key where
 is:=jd
 hash:=keyH w
 inj:=λv a b W hb=>by
  rcases aC W with ⟨i,t,rfl,rfl⟩|⟨x,t,rfl,rfl⟩
  .rcases aC hb with ⟨j,u,rfl,e⟩|⟨y,u,rfl,e⟩
   .injection e with O _;rw[O]
   .exact nomatch e
  .rcases aC hb with ⟨j,u,rfl,e⟩|⟨y,u,rfl,e⟩
   .exact nomatch e
   .injection e with O _;rw[O]
 byValue:=λk v h=>by rcases aC h with ⟨i,t,rfl,rfl⟩|⟨x,t,rfl,rfl⟩<;>rfl
 pyHash:=λU h=>by
  rcases aC U with ⟨i,t,rfl,rfl⟩|⟨x,t,rfl,rfl⟩
  .exact wpAny_pyHash_int h
  .exact wpAny_pyHash_str h
 eqBool:=λY U h=>by
  rcases aC Y with ⟨i,t,rfl,rfl⟩|⟨x,t,rfl,rfl⟩
  .rcases aC U with ⟨j,u,rfl,rfl⟩|⟨y,u,rfl,rfl⟩
   .rw[zL]at h;exact wpAny_eqBool_int h
   .rw[zN]at h;exact qf1.int_str i t y u _ _ _ _ h
  .rcases aC U with ⟨j,u,rfl,rfl⟩|⟨y,u,rfl,rfl⟩
   .rw[zO]at h;exact qf1.str_int x t j u _ _ _ _ h
   .rw[zM]at h;exact wpAny_eqBool_str h
 «strs»:=λk x t v h=>by
  rcases aC h with ⟨i,u,rfl,e⟩|⟨y,u,rfl,e⟩
  .exact nomatch e
  .injection e with O _;subst O;cases v<;>rfl
theorem lm(prog:qe5)(w:J5)(i:Int)(t:Tok):(ao prog w).is (.inl i) (.int i t)=θ:=pV i t
theorem lp(prog:qe5)(w:J5)(x:Str)(t:Tok):(ao prog w).is (.inr x) (.str x t)=θ:=pW x t
set_option genInjectivity true in
inductive V where
 |non|bl (b:Bool)|int (i:Int)|str (x:Str)|byt (b:Array UInt8)|flt (b:UInt64)|ref (a:J4)|ty (n:String)
 deriving DecidableEq
def RelV:V->Value->Prop
 |.non,u=>u=qg8
 |.bl b,u=>u=qs6 b
 |.int i,u=>∃t,u=zd5 i t
 |.str x,u=>∃t,u=zd6 x t
 |.byt b,u=>∃t,u=Value.bytes b t
 |.flt b,u=>∃t,u=Value.float b t
 |.ref a,u=>u=qc3 a
 |.ty n,u=>u=qo5 n
abbrev Vals:η V->η Value->Prop:=Paired RelV
variable{xs:η V}{us:η Value}
theorem Vals.length(r:Vals xs us):xs.length=us.length:=Paired.length r
theorem Vals.get:∀{xs:η V}{us:η Value}{i:Nat}{x:V},Vals xs us->xs[i]?=ς x->∃u,us[i]?=ς u/\RelV x u
 |_,_,_,_,.nil,e=>by simp at e
 |_,_,0,_,.cons r _,e=>by simp at e;subst e;exact⟨_,rfl,r⟩
 |_,_,i+1,x,.cons _ t,e=>by have⟨u,h1,h2⟩:=Vals.get (i:=i) (x:=x) t ‹e›;exact⟨u,‹h1›,h2⟩
variable{u:Value}
theorem Vals.set{x:V}(r:RelV x u):∀{xs:η V}{us:η Value}(i:Nat),Vals xs us->Vals (xs.set i x) (us.set i u)
 |_,_,_,.nil=>.nil
 |_,_,0,.cons _ t=>.cons r t
 |_,_,i+1,.cons q t=>.cons q (Vals.set r i t)
theorem Vals.append:∀{xs ys:η V}{us ws:η Value},Vals xs us->Vals ys ws->Vals (xs++ys) (us++ws)
 |_,_,_,_,.nil,s=>s
 |_,_,_,_,.cons r t,s=>.cons r (Vals.append t s)
theorem Vals.take:∀{xs:η V}{us:η Value}(n:Nat),Vals xs us->Vals (xs.take n) (us.take n)
 |_,_,0,_=>.nil
 |_,_,_+1,.nil=>.nil
 |_,_,n+1,.cons r t=>.cons r (Vals.take n t)
theorem Vals.drop:∀{xs:η V}{us:η Value}(n:Nat),Vals xs us->Vals (xs.drop n) (us.drop n)
 |_,_,0,r=>r
 |_,_,_+1,.nil=>.nil
 |_,_,n+1,.cons _ t=>Vals.drop n t
def RelO:ζ V->ζ Value->Prop
 |some v,ς u=>RelV v u
 |none,ψ=>True
 |_,_=>False
def KV{κ:Type}:η (κ×V)->η (κ×Value)->Prop:=Paired λ(p:κ×V)(q:κ×Value)=>p.1=q.1/\RelV p.2 q.2
noncomputable def kV:Key->V
 |.inl i=>.int i
 |.inr x=>.str x
inductive HO where
 |e (xs:List V)
 |t (xs:List V)
 |dK (J1:List (Key×V))|dT (J1:List (List Key×V))
 |set (S:Int->Bool) (n:Nat)
 |ins (C dx:J4) (fs:List (Str×V))
 |own (x:J4)
 |xd (fs:List (Str×V))
 |met (f x:J4)
 |rng (lo hi:Int)
 |frz (o:Obj) (u:HO)
 |tbl (ps:Array Value)
 |code (q:Str)
 |ctab (qs:List ((Nat×Nat)×Str))
 |ext (φ:Heap->Prop)
abbrev Hp:=J4->ζ HO
noncomputable def upd(H:Hp)(a:J4)(o:HO):Hp:=λb=>if b=a then ς o else H b
variable{H:Hp}{a:J4}
theorem af{o:HO}:upd H a o a=ς o:=by unfold upd;rw[if_pos rfl]
theorem ah{b:J4}{o:HO}(h:b≠a):upd H a o b=H b:=by unfold upd;rw[if_neg h]
theorem v7{b:J4}{o u:HO}(h:H a=ς o)(h':H b=ς u)(d:o≠u):a≠b:=by intro e;subst e;rw[h]at h';exact d (qd5 h')
theorem aE{b:J4}{o:HO}(h:H a=ς o)(h':H b=ψ):a≠b:=by intro e;subst e;rw[h]at h';cases h'
def IsTu(h:Heap)(a:J4)(items:Array Value):Prop:=IsTup h a items/\∀o,h.get? a=ς o->o.dict=ψ
variable{items:Array Value}
theorem IsTu.of{h:Heap}{o:Obj}{n:Nat}(e:h.get? a=ς o)(hc:o.cls=.type "tuple")(O:o.data=.seq items n)(U:o.dict=ψ):IsTu h a items:=⟨⟨o,e,hc,n,O⟩,λu q=>by rw[e]at q;cases q;exact U⟩
theorem IsTu.new(h:Heap)(items:Array Value):IsTu (h.push {cls:=.type "tuple",data:=.seq items}) h.objs.size items:=.of (qc0 _ rfl) rfl rfl rfl
theorem IsTu.kept{h h':Heap}(x:IsTu h a items)(k:∀u,h.get? a=ς u->h'.get? a=ς u):IsTu h' a items:=by have⟨⟨o,e,hc,n,O⟩,U⟩:=x;exact .of (k o e) hc O (U o e)
section
variable(P:qe5)(w:J5)
def ObjOk(H:Hp)(h:Heap)(a:J4):HO->Prop
 |.e xs=>xs.length<=qa5/\∃(J3:η Value)(n:Nat),Vals xs J3/\h.get? a=ς {cls:=.type "list",data:=.seq J3.toArray n}
 |.t xs=>xs.length<=qa5/\∃J3:η Value,Vals xs J3/\IsTu h a J3.toArray
 |.dK J1=>J1.length<=qa5/\(a==qk1)=ξ/\∃vs,KV J1 vs/\h.DictOf (ao P w) a vs
 | .dT J1=>J1.length<=qa5/\(a==qk1)=ξ/\∃xs:η (η Key×J4×Value),
     Paired (λ(p:η Key×V)(q:η Key×J4×Value)=>p.1=q.1/\H q.2.1=ς (.t (p.1.map kV))/\RelV p.2 q.2.2) J1 xs∧
     ∃o es ep,h.get? a=ς o/\o.ExactDict/\o.data=.dict es ep/\es.toList=xs.map (entryOfKey (za8 (ao P w)))/\(xs.map (·.1)).Nodup
 |.set S n=>h.SetOf (intKind P w) a S n
 |.ins C dx fs=>H dx=ς (.own a)/\fs.length<=1000/\dx≠a/\h.get? a=ς (xG9 C dx)∧∃mA,h.Ns1 dx mA/\(∀f,RelO (fs.lookup f) (mA f))/\PySem.Within mA (fs.map (·.1))
 |.own _=>∃o,h.get? a=ς o
 |.xd fs=>∃mA,h.Ns1 a mA/\∀f,RelO (fs.lookup f) (mA f)
 |.rng lo hi=>∃t u v,h.get? a=ς {cls:=.type "range",data:=.fields #[.int lo t,.int hi u,.int 1 v]}
 |.frz o u=>h.get? a=ς o/\ObjOk H h a u
 |.tbl ps=>h.get? a=ς {cls:=.none,data:=.fields ps}
 |.code q=>h.CodeRec (.ref a) q
 |.ctab O=>∃ps:Array Value,h.get? a=ς {cls:=.none,data:=.fields ps}/\TriplesOk ps.toList/\∀(pos:Pos)(q:Str)(v:Value),((pos.line,pos.col),q)∈O->codeAmong pos ps.toList=ς v->∃c o,v=.ref c/\H c=ς (.frz o (.code q))
 |.met f x=>h.get? a=ς (xO9 (.ref f) (.ref x))
 |.ext φ=>φ h/\(∃o,h.get? a=ς o)/\∀h1 h2:Heap,φ h1->(∀o,h1.get? a=ς o->h2.get? a=ς o)->φ h2
def HOk(H:Hp)(h:Heap):Prop:=∀a o,H a=ς o->ObjOk P w H h a o
end
section
variable{P:qe5}{w:J5}{H H':Hp}{h h':Heap}{a:J4}{o:HO}
theorem ObjOk.lt(x:ObjOk P w H h a o):a<h.objs.size:=by
 cases o with
 |e xs=>have⟨_,_,_,_,e⟩:=x;exact qb4 e
 |t xs=>have⟨_,_,_,p⟩:=x;exact p.1.lt
 |dK J1=>have⟨_,_,_,_,o,_,_,e,_⟩:=x;exact qb4 e
 |dT J1=>have⟨_,_,_,_,o,_,_,e,_⟩:=x;exact qb4 e
 |set S n=>have⟨o,_,_,_,e,_⟩:=x;exact qb4 e
 |ins C dx fs=>have⟨_,_,_,e,_⟩:=x;exact qb4 e
 |own y=>have⟨_,e⟩:=x;exact qb4 e
 |xd fs=>have⟨_,⟨_,_,_,e,_⟩,_⟩:=x;exact qb4 e
 |rng lo hi=>have⟨_,_,_,e⟩:=x;exact qb4 e
 |frz ob u=>have⟨e,_⟩:=x;exact qb4 e
 |tbl ps=>exact qb4 (show h.get? a=ς _ from x)
 |code q=>have⟨c,o,vs,t,e,g,_⟩:=x;cases e;exact qb4 g
 |ctab O=>have⟨ps,g,_⟩:=x;exact qb4 g
 |met f y=>exact qb4 (show h.get? a=ς _ from x)
 |ext φ=>have⟨_,⟨_,e⟩,_⟩:=x;exact qb4 e
theorem Paired.mapP{α β:Type}{F G:α->β->Prop}:∀{l₁:η α}{l₂:η β},Paired F l₁ l₂->(∀a b,F a b->G a b)->Paired G l₁ l₂
 |_,_,.nil,_=>.nil
 |_,_,.cons r t,f=>.cons (f _ _ r) (Paired.mapP t f)
theorem ObjOk.stay (x:ObjOk P w H h a o) (k:∀ b u,(b=a\/H b=ς (.own a))->h.get? b=ς u->h'.get? b=ς u)
  (ho:∀b,H b=ς (.own a)->H' b=ς (.own a)) (Y:∀b xs,H b=ς (.t xs)->H' b=ς (.t xs)) (U:∀b ob q,H b=ς (.frz ob (.code q))->H' b=ς (.frz ob (.code q))):ObjOk P w H' h' a o:=by
 induction o with
 |e xs=>have⟨z,J3,n,r,e⟩:=x;exact⟨z,J3,n,r,k _ _ (.inl rfl) e⟩
 |t xs=>have⟨z,J3,r,t⟩:=x;exact⟨z,J3,r,t.kept λu e=>k _ _ (.inl rfl) e⟩
 |dK J1=>have⟨z,y,vs,r,ob,es,ep,e,c⟩:=x;exact⟨z,y,vs,r,ob,es,ep,k _ _ (.inl rfl) e,c⟩
 |dT J1=>have⟨z,y,xs,r,ob,es,ep,e,c⟩:=x;exact⟨z,y,xs,Paired.mapP r λp q z=>⟨z.1,Y _ _ z.2.1,z.2.2⟩,ob,es,ep,k _ _ (.inl rfl) e,c⟩
 |set S n=>have⟨ob,es,ep,t,e,c⟩:=x;exact⟨ob,es,ep,t,k _ _ (.inl rfl) e,c⟩
 |ins C dx fs=>have⟨d,z,ne,e,mA,⟨O,es,ep,e2,c⟩,r⟩:=x;exact⟨ho _ d,z,ne,k _ _ (.inl rfl) e,mA,⟨O,es,ep,k _ _ (.inr d) e2,c⟩,r⟩
 |own y=>have⟨ob,e⟩:=x;exact⟨ob,k _ _ (.inl rfl) e⟩
 |xd fs=>have⟨mA,⟨O,es,ep,e,c⟩,r⟩:=x;exact⟨mA,⟨O,es,ep,k _ _ (.inl rfl) e,c⟩,r⟩
 |rng lo hi=>have⟨t,u,v,e⟩:=x;exact⟨t,u,v,k _ _ (.inl rfl) e⟩
 |frz ob u Z=>have⟨e,q⟩:=x;exact⟨k _ _ (.inl rfl) e,Z q⟩
 |tbl ps=>have e:h.get? a=ς {cls:=.none,data:=.fields ps}:=x;show h'.get? a=ς {cls:=.none,data:=.fields ps};exact k a _ (.inl rfl) e
 |code q=>have⟨c,o,vs,t,e,g,r⟩:=x;cases e;exact⟨a,o,vs,t,rfl,k a _ (.inl rfl) g,r⟩
 |ctab qs=>have⟨ps,g,r1,r2⟩:=x;exact⟨ps,k a _ (.inl rfl) g,r1,λpos q v h1 h2=>let ⟨c,ob,e,g⟩:=r2 pos q v h1 h2;⟨c,ob,e,U c ob q g⟩⟩
 |met f y=>have e:h.get? a=ς (xO9 (.ref f) (.ref y)):=x;show h'.get? a=ς (xO9 (.ref f) (.ref y));exact k a _ (.inl rfl) e
 |ext φ=>have⟨p,⟨o,e⟩,st⟩:=x;exact⟨st _ _ p λo q=>k _ _ (.inl rfl) q,⟨o,k _ _ (.inl rfl) e⟩,st⟩
theorem HOk.lt(x:HOk P w H h)(e:H a=ς o):a<h.objs.size:=(x a o e).lt
theorem HOk.fresh(x:HOk P w H h)(e:h.objs.size<=a):H a=ψ:=by
 cases q:H a with
 |none=>rfl
 |some u=>exact absurd (qc7 (x.lt q) e) (qm7 _)
theorem HOk.kept(x:HOk P w H h)(k:∀b u,h.get? b=ς u->h'.get? b=ς u):HOk P w H h':=λa o e=>(x a o e).stay (λb u _ q=>k b u q) (λ_ q=>q) (λ_ _ q=>q) λ_ _ _ q=>q
theorem HOk.laid(x:HOk P w H h)(k:∀b u,h.get? b=ς u->h'.get? b=ς u)(hp:h.objs.size<=a)(new:ObjOk P w (upd H a o) h' a o):HOk P w (upd H a o) h':=λb u e=>by
 have O:=x.fresh hp;by_cases hb:b=a
 .subst hb;rw[af]at e;cases e;exact new
 .rw[ah hb]at e;exact(x b u e).stay (λc v _ q=>k c v q) (λc q=>by rw[ah (aE q O)];exact q) (λc xs q=>by rw[ah (aE q O)];exact q) λc ob xs q=>by rw[ah (aE q O)];exact q
end
def Rd(H:Hp)(a:J4)(u:HO):Prop:=H a=ς u\/∃o,H a=ς (.frz o u)
theorem Rd.of{u:HO}(h:H a=ς u):Rd H a u:=.inl h
variable{P:qe5}
theorem Rd.ok{w:J5}{h:Heap}{u:HO}(r:Rd H a u)(x:HOk P w H h):ObjOk P w H h a u:=by
 rcases r with r|⟨o,r⟩
 .exact x a u r
 .have⟨_,q⟩:=x a _ r;exact q
def Mut:ζ HO->Prop
 |some (.e _)=>True
 |some (.dK _)=>True
 |some (.dT _)=>True
 |some (.set _ _)=>True
 |some (.ins _ _ _)=>True
 |some (.ext _)=>True
 |_=>False
section
variable{P:qe5}{w:J5}{H:Hp}{h h':Heap}{x e:J4}{o':HO}
theorem HOk.write (ok:HOk P w H h) (W:Mut (H x)) (he:e=x\/H e=ς (.own x)) (k:∀ b u,b≠e->h.get? b=ς u->h'.get? b=ς u) (heo:∃ u,h'.get? e=ς u)
  (new:ObjOk P w (upd H x o') h' x o'):HOk P w (upd H x o') h':=λb u q=>by
 have U:∀c y,H c=ς (.own y)->c≠x:=λc y r z=>by subst z;rw[r]at W;exact W
 have Y:∀c xs,H c=ς (.t xs)->c≠x:=λc xs r z=>by subst z;rw[r]at W;exact W
 have Z:∀c ob xs,H c=ς (.frz ob (.code xs))->c≠x:=λc ob xs r z=>by subst z;rw[r]at W;exact W
 by_cases hb:b=x
 .subst hb;rw[af]at q;cases q;exact new
 .rw[ah hb]at q;by_cases O:b=e
  .have q':H b=ς (.own x):=by
    rcases he with z|z
    .exact absurd (O.trans z) hb
    .rw[O];exact z
   rw[q]at q';cases q'
   have⟨v,hv⟩:=heo;exact⟨v,by rw[O];exact hv⟩
  .refine(ok b u q).stay (λc v hc r=>k c v ?_ r) (λc r=>by rw[ah (U c b r)];exact r) (λc xs r=>by rw[ah (Y c xs r)];exact r) λc ob xs r=>by rw[ah (Z c ob xs r)];exact r
   rcases hc with rfl|hc
   .exact O
   .rintro rfl;rcases he with z|z
    .exact U c b hc z
    .rw[hc]at z;cases z;exact hb rfl
end
structure Un(fs ex:List J4)(H H':Hp)(h h':Heap):Prop where
 keep:∀b o,h.get? b=ς o->H b=ψ->b∉fs->b∉ex->h'.get? b=ς o
 slot:∀b o,h.get? b=ς o->H b=ψ->b∈fs->b∉ex->∃sl,h'.get? b=ς {o with slots:=sl}
 free:∀b o,h.get? b=ς o->H b=ψ->b∉ex->H' b=ψ
 there:∀b o,h.get? b=ς o->b∉ex->∃o',h'.get? b=ς o'
 tups:∀b xs,H b=ς (.t xs)->H' b=ς (.t xs)
 frzs:∀b o u,H b=ς (.frz o u)->H' b=ς (.frz o u)
 tbls:∀b ps,H b=ς (.tbl ps)->∃more,H' b=ς (.tbl (ps++more))
 cts:∀b qs,H b=ς (.ctab qs)->H' b=ς (.ctab qs)
section
variable{fs fs' ex ex':η J4}{H H1 H2:Hp}{h h1 h2 h':Heap}{a x e:J4}{o:HO}
theorem Un.any(u:Un fs ex H H1 h h1){b:J4}{ob:Obj}(q:h.get? b=ς ob)(n:H b=ψ)(O:b∉ex):∃sl,h1.get? b=ς {ob with slots:=sl}:=by
 by_cases hb:b∈fs
 .exact u.slot b ob q n hb O
 .exact⟨ob.slots,u.keep b ob q n hb O⟩
theorem Un.kept(k:∀b u,h.get? b=ς u->h'.get? b=ς u):Un fs ex H H h h':=⟨λb ob q _ _ _=>k b ob q,λb ob q _ _ _=>⟨ob.slots,k b ob q⟩,λ_ _ _ n _=>n,λb ob q _=>⟨ob,k b ob q⟩,λ_ _ q=>q,λ_ _ _ q=>q,λ_ ps q=>⟨#[],by rw[q];simp⟩,λ_ _ q=>q⟩
theorem Un.refl:Un fs ex H H h h:=Un.kept λ_ _ q=>q
theorem Un.laid(k:∀b u,h.get? b=ς u->h'.get? b=ς u)(hp:h.objs.size<=a)(O:H a=ψ):Un fs ex H (upd H a o) h h' where
 keep:=λb u q _ _ _=>k b u q
 slot:=λb u q _ _ _=>⟨u.slots,k b u q⟩
 free:=λb u q n _=>by rw[ah (qc5 (qc7 (qb4 q) hp))];exact n
 there:=λb u q _=>⟨u,k b u q⟩
 tups:=λb xs q=>by rw[ah (aE q O)];exact q
 frzs:=λb u xs q=>by rw[ah (aE q O)];exact q
 tbls:=λb ps q=>⟨#[],by rw[ah (aE q O),q];simp⟩
 cts:=λb U q=>by rw[ah (aE q O)];exact q
theorem Un.write(U:Mut (H x))(he:e=x\/H e=ς (.own x))(k:∀b u,b≠e->h.get? b=ς u->h'.get? b=ς u)(Y:∃u,h'.get? e=ς u):Un fs ex H (upd H x o) h h':=by
 have Z:∀b,H b=ψ->b≠x:=λb n z=>by subst z;rw[n]at U;exact U
 have hb:∀b,H b=ψ->b≠e:=λb n z=>by
  subst z;rcases he with r|r
  .exact Z b n r
  .rw[n]at r;cases r
 have W:∀b u,H b=ς u->¬ Mut (ς u)->b≠x:=λb u q nm z=>by subst z;rw[q]at U;exact nm U
 refine⟨λb u q n _ _=>k b u (hb b n) q,λb u q n _ _=>⟨u.slots,k b u (hb b n) q⟩,λb u q n _=>by rw[ah (Z b n)];exact n,λb u q _=>?_,λb xs q=>by rw[ah (W b _ q λz=>z)];exact q,λb u xs q=>by rw[ah (W b _ q λz=>z)];exact q,λb ps q=>⟨#[],by rw[ah (W b _ q λz=>z),q];simp⟩,λb xs q=>by rw[ah (W b _ q λz=>z)];exact q⟩
 by_cases O:b=e
 .subst O;exact Y
 .exact⟨u,k b u O q⟩
end
noncomputable def trk(h:Heap)(H:Hp):η J4:=(qd9 h.objs.size).filter λa=>(H a).isSome
def jX(h:Heap)(H:Hp):Heap:=PySem.W.hideAll h (trk h H)
theorem pX(h:Heap)(H:Hp):(jX h H).objs.size=h.objs.size:=PySem.W.hideAll_size _ _
theorem rG{h:Heap}{b:J4}{o:Obj}(e:h.get? b=ς o)(n:H b=ψ):(jX h H).get? b=ς o:=PySem.W.hideAll_get _ e λO=>by have q:(H b).isSome=θ:=(qr5.mp O).2;rw[n]at q;simp at q
theorem v8{h:Heap}{b:J4}{o:Obj}(e:(jX h H).get? b=ς o):h.get? b=ς o/\H b=ψ:=by
 have O:h.get? b=ς o:=PySem.W.of_hideAll (trk h H) e;refine⟨O,?_⟩;cases q:H b with
 |none=>rfl
 |some x=>have U:b∈trk h H:=qr5.mpr ⟨qf2.mpr (qb4 O),by simp[q]⟩;have z:(jX h H).get? b=ψ:=PySem.W.hideAll_none (trk h H) U;rw[z]at e;cases e
noncomputable def v9(g h:Heap)(L:J4):η (J4×Obj):=(qd9 h.objs.size).filterMap λa=>if a=L\/(g.get? a).isSome=θ then ψ else(h.get? a).map λo=>(a,o)
def rest(g h:Heap)(L d:J4):η (J4×Obj):=(v9 g h L).filter λp=>decide (p.1≠d)
noncomputable def nestNames:η Str:=["way_to_reading","spoilt"]
noncomputable def C4(x:Str)(ss:η J6):η ((Nat×Nat)×Str):=ss.filterMap λst=>match st with
 |.FunctionDef name _ _ _ _ _ _ _ _ pos=>ς ((pos.line,pos.col),x++".<locals>."++name)
 |_=>ψ
def zP(K:xA9)(x:Str):ζ (J4×η ((Nat×Nat)×Str)):=match PySem.W.tabIn K x with
 |some (_,P)=>(match xE9 K qe6 x with
  |some (ς (.ref f))=>(match K.lookup f with
   |some o=>(match o.data with
    |.func fd=>(match fd.body with
     |.stmts b=>ς (P,C4 x b)
     |_=>ψ)
    |_=>ψ)
   |none=>ψ)
  |_=>ψ)
 |none=>ψ
def lq(K:xA9):η (J4×η ((Nat×Nat)×Str)):=nestNames.filterMap (zP K)
structure Mod(K:xA9)(mg:Str->Option Value)(base:Heap):Prop where
 kin:K.In base
 glob:base.Ns qe6 mg
 blt:∃mb,base.Ns ze7 mb/\∀x:Str,x≠"__name__"->mb x=qf5 x
 nolimit:base.NoLimit
structure Cx where
 prog:qe5
 w:J5
 K:xA9
 mg:Str->Option Value
 base:Heap
 A:ql0
 N:List Str
 s₀:qa8
 H₀:Hp
 env:Env
 outer:List Env
 stack:List Env
 ex:List J4
 fn:Str->Bool
 calm:Bool
 pn:List (J4×Obj)
 xe:Value->qa8->Prop
noncomputable def frs(l:η Env):η J4:=l.filterMap (·.frame)
abbrev Cx.fs(X:Cx):η J4:=frs X.outer
def Vis(sc:J9)(x:Str):Prop:=sc.names.lookup x=ς .local\/sc.names.lookup x=ς .cell\/sc.names.lookup x=ς .free
def Loc(sc:J9)(x:Str):Prop:=sc.names.lookup x=ς .local\/sc.names.lookup x=ς .cell
def Look(env:Env)(h:Heap)(m:Str->ζ Value)(x:Str)(u:Value):Prop:=(env.kindOf x=ς .local/\m x=ς u)\/((env.kindOf x=ς .cell\/env.kindOf x=ς .free)/\∃c,env.cells.lookup x=ς c/\h.IsCell c (ς u))
structure Cx.Ok(X:Cx):Prop where
 mod:Mod X.K X.mg X.base
 kind:X.env.scope.kind=.function
 glob:X.env.globals=qe6
 blt:X.env.builtins=ze7
 above:X.s₀.heap.objs.size<=X.env.locals
 inj:∀x y c,X.env.cells.lookup x=ς c->X.env.cells.lookup y=ς c->x=y
 has:∀x,(X.env.kindOf x=ς .cell\/X.env.kindOf x=ς .free)->∃c,X.env.cells.lookup x=ς c
 cab:∀x c,X.fn x=θ->X.env.cells.lookup x=ς c->X.s₀.heap.objs.size<=c
 hd:X.calm=θ->X.A.handled=ψ
 frames:X.A.frames=ς X.stack
 stk:X.stack=X.outer\/(X.stack=X.env::X.outer/\X.env.frame=ς X.env.locals)
 exf:∀b∈X.ex,b≠X.env.locals/\∀x c,X.env.cells.lookup x=ς c->c≠b
 bs:∀b o,X.base.get? b=ς o->X.s₀.heap.get? b=ς o/\X.H₀ b=ψ
 bsz:X.base.objs.size<=X.s₀.heap.objs.size
 noex:∀b o,X.base.get? b=ς o->b∉X.ex
 exfs:∀b∈X.ex,b∉X.fs
 funs:X.s₀.heap.FunFrames X.base X.outer
 frf:∀b∈X.fs,X.H₀ b=ψ
 tb:∀p∈lq X.K,X.H₀ p.1=ς (.ctab p.2)
structure Inv(X:Cx)(J0:List (J4×Obj))(σ:List (Option V))(H:Hp)(s:qa8):Prop where
 ok:X.Ok
 os:s.os=X.s₀.os
 bare:za9 s.gens
 base:Un X.fs X.ex X.H₀ H X.s₀.heap s.heap
 loc:∃m,s.heap.Ns X.env.locals m/\∀(i:Nat)(x:Str)(v:V),X.N[i]?=ς x->σ[i]?=ς (ς v)->Vis X.env.scope x->∃u,RelV v u/\Look X.env s.heap m x u
 cell:∀x c,X.env.cells.lookup x=ς c->∃v,s.heap.IsCell c v
 free:H X.env.locals=ψ
 freeC:∀x c,X.env.cells.lookup x=ς c->H c=ψ
 pin:∀p∈X.pn++J0,s.heap.get? p.1=ς p.2/\H p.1=ψ/\p.1≠X.env.locals/\p.1∉X.fs/\∀v,p.2.data≠.cell v
 hok:HOk X.prog X.w H s.heap
 len:σ.length=X.N.length
variable{g':Array GenState}{t' j:Nat}{d':Drawn}{ch:η J4}{N:η Str}{M:Model}{A:ql0}{s':qa8}
section
variable{X:Cx}{J0:η (J4×Obj)}{σ:η (ζ V)}{H H':Hp}{s:qa8}{h':Heap}
theorem Cx.Ok.nofr(ok:X.Ok){b:J4}{o:Obj}(e:X.base.get? b=ς o):b∉X.fs:=λhb=>by have:=(ok.funs.mem hb).1;rw[e]at this;cases this
theorem Inv.bs(I:Inv X J0 σ H s):∀b o,X.base.get? b=ς o->s.heap.get? b=ς o/\H b=ψ:=λb o e=>⟨I.base.keep b o (I.ok.bs b o e).1 (I.ok.bs b o e).2 (I.ok.nofr e) (I.ok.noex b o e),I.base.free b o (I.ok.bs b o e).1 (I.ok.bs b o e).2 (I.ok.noex b o e)⟩
theorem Inv.bk(I:Inv X J0 σ H s):∀b o,X.base.get? b=ς o->s.heap.get? b=ς o:=λb o e=>(I.bs b o e).1
theorem Inv.mod(I:Inv X J0 σ H s):Mod X.K X.mg X.base:=I.ok.mod
theorem Inv.kIn(I:Inv X J0 σ H s):X.K.In s.heap:=I.ok.mod.kin.keeps I.bk
theorem Inv.fr(I:Inv X J0 σ H s):∃m,Fr X.base X.env.locals s.heap m:=
 let ⟨m,hn,_⟩:=I.loc
 ⟨m,hn,I.bk,qd7 I.ok.bsz I.ok.above⟩
theorem Inv.lt(I:Inv X J0 σ H s):X.env.locals<s.heap.objs.size:=let ⟨_,hn,_⟩:=I.loc;hn.lt
theorem Inv.sz(I:Inv X J0 σ H s):X.s₀.heap.objs.size<=s.heap.objs.size:=qd7 I.ok.above (qq7 I.lt)
theorem Inv.nofs(I:Inv X J0 σ H s)(h:s.heap.objs.size<=a):a∉X.fs:=λhb=>by have⟨_,o,O,_⟩:=I.ok.funs.mem hb;exact absurd (qc7 (qb4 O) (qd7 I.sz h)) (qm7 _)
theorem Inv.cne(I:Inv X J0 σ H s):∀x c,X.env.cells.lookup x=ς c->c≠X.env.locals:=λx c e z=>by have⟨v,o,Y,W⟩:=I.cell x c e;have⟨m,⟨o',es,ep,U,O,_⟩,_⟩:=I.loc;rw[z,U]at Y;cases Y;rw[O]at W;cases W
theorem Inv.funs(I:Inv X J0 σ H s):s.heap.FunFrames X.base X.outer:=by
 have all:∀(l:η Env),(∀b∈frs l,b∈X.fs)->X.s₀.heap.FunFrames X.base l->s.heap.FunFrames X.base l:=by
  intro l;induction l with
  |nil=>intro _ _;trivial
  |cons env r Z=>
   intro hs hl;have⟨W,⟨L,o,hf,Y,ho,U⟩,hr⟩:=hl;have O:L∈X.fs:=hs L (by unfold frs;rw[qq1,hf];exact qi9);have⟨sl,e⟩:=I.base.slot L o ho (I.ok.frf L O) O λz=>I.ok.exfs L z O
   exact⟨W,⟨L,_,hf,Y,e,U⟩,Z (λb hb=>hs b (by unfold frs;rw[qq1,hf];exact qe4 _ hb)) hr⟩
 exact all X.outer (λ_ hb=>hb) I.ok.funs
theorem Inv.stack(I:Inv X J0 σ H s):s.heap.FunFrames X.base X.stack:=by
 rcases I.ok.stk with e|⟨e,hf⟩
 .rw[e];exact I.funs
 .rw[e];have⟨m,O,_⟩:=I.loc;refine .cons (by rw[I.ok.kind];decide) hf O ?_ I.funs;exact Heap.get?_none_of_le (qd7 I.ok.bsz I.ok.above)
theorem Inv.stkSub(I:Inv X J0 σ H s):∀b∈frs X.stack,b∈X.env.locals::X.fs:=λb hb=>by
 rcases I.ok.stk with e|⟨e,hf⟩
 .rw[e]at hb;exact qe4 _ hb
 .rw[e]at hb;unfold frs at hb;rw[qq1,hf]at hb;exact hb
theorem Inv.stkFree(I:Inv X J0 σ H s):∀b∈frs X.stack,H b=ψ:=λb hb=>by
 rcases qb9.mp (I.stkSub b hb)with e|hb
 .rw[e];exact I.free
 .have⟨_,o,O,_⟩:=I.ok.funs.mem hb;exact I.base.free b o O (I.ok.frf b hb) λz=>I.ok.exfs b z hb
theorem Inv.step(I:Inv X J0 σ H s)
 (W:∀b∈ch,(b∈X.ex\/X.s₀.heap.objs.size<=b)/\b≠X.env.locals/\(∀x c,X.env.cells.lookup x=ς c->c≠b)/\∀p∈X.pn++J0,p.1≠b)
 (keep:∀b o,b≠X.env.locals->b∉X.fs->b∉ch->s.heap.get? b=ς o->H b=ψ->h'.get? b=ς o)
 (slot:∀b o,b≠X.env.locals->b∈X.fs->b∉ch->s.heap.get? b=ς o->H b=ψ->∃sl,h'.get? b=ς {o with slots:=sl}) (free:∀b o,b∉ch->s.heap.get? b=ς o->H b=ψ->H' b=ψ)
 (there:∀b o,b∉ch->s.heap.get? b=ς o->∃o',h'.get? b=ς o')
 (tups:∀b xs,H b=ς (.t xs)->H' b=ς (.t xs)) (frzs:∀b o u,H b=ς (.frz o u)->H' b=ς (.frz o u)) (tbls:∀b ps,H b=ς (.tbl ps)->∃more,H' b=ς (.tbl (ps++more))) (cts:∀b qs,H b=ς (.ctab qs)->H' b=ς (.ctab qs))
 (ns:∀m,s.heap.Ns X.env.locals m->h'.Ns X.env.locals m) (hok:HOk X.prog X.w H' h') (hg:za9 g') :
  Inv X J0 σ H' {s with heap:=h',gens:=g',drawn:=d',toks:=t'}:=by
 have neL:∀b o,X.s₀.heap.get? b=ς o->b≠X.env.locals:=λb o e=>qc5 (qc7 (qb4 e) I.ok.above)
 have neC:∀b o,X.s₀.heap.get? b=ς o->b∉X.ex->b∉ch:=λb o e O hb=>by
  rcases(W b hb).1 with z|z
  .exact O z
  .exact absurd (qc7 (qb4 e) z) (qm7 _)
 have U:∀x c,X.env.cells.lookup x=ς c->∀v,s.heap.IsCell c v->h'.IsCell c v:=λx c e v hq1=>by
  have⟨o,ho,hd⟩:=hq1;have Y:c∉ch:=λz=>(W c z).2.2.1 x c e rfl
  by_cases hc:c∈X.fs
  .have⟨sl,q⟩:=slot c o (I.cne x c e) hc Y ho (I.freeC x c e);exact⟨_,q,hd⟩
  .exact⟨o,keep c o (I.cne x c e) hc Y ho (I.freeC x c e),hd⟩
 refine⟨I.ok,I.os,hg,⟨λb o e n hb O=>?_,λb o e n hb O=>?_,λb o e n O=>?_,λb o e O=>?_,λb xs e=>tups b xs (I.base.tups b xs e),λb o xs e=>frzs b o xs (I.base.frzs b o xs e),λb ps e=>?_,λb qs e=>cts b qs (I.base.cts b qs e)⟩,?_,λx c e=>?_,?_,λx c e=>?_,λp hp=>?_,hok,I.len⟩
 .exact keep b o (neL b o e) hb (neC b o e O) (I.base.keep b o e n hb O) (I.base.free b o e n O)
 .have⟨sl,Z⟩:=I.base.slot b o e n hb O;have⟨sl',e2⟩:=slot b _ (neL b o e) hb (neC b o e O) Z (I.base.free b o e n O);exact⟨sl',e2⟩
 .have⟨o',Z⟩:=I.base.there b o e O;exact free b o' (neC b o e O) Z (I.base.free b o e n O)
 .have⟨o',Z⟩:=I.base.there b o e O;exact there b o' (neC b o e O) Z
 .have⟨m1,Z⟩:=I.base.tbls b ps e;have⟨m2,e2⟩:=tbls b _ Z;exact⟨m1++m2,by rw[e2,Array.append_assoc]⟩
 .have⟨m,hn,hl⟩:=I.loc;refine⟨m,ns m hn,λi x v Z e2 e3=>?_⟩;have⟨u,r,l⟩:=hl i x v Z e2 e3;refine⟨u,r,?_⟩;rcases l with l|⟨k,c,e,z⟩
  .exact .inl l
  .exact .inr ⟨k,c,e,U x c e _ z⟩
 .have⟨v,z⟩:=I.cell x c e;exact⟨v,U x c e v z⟩
 .have⟨m,⟨o,_,_,ho,_⟩,_⟩:=I.loc;exact free _ o (λz=>(W _ z).2.1 rfl) ho I.free
 .have⟨v,o,ho,hd⟩:=I.cell x c e;exact free c o (λz=>(W c z).2.2.1 x c e rfl) ho (I.freeC x c e)
 .have⟨e,n,ne,nf,d⟩:=I.pin p hp;have Y:p.1∉ch:=λz=>(W p.1 z).2.2.2 p hp rfl
  exact⟨keep p.1 p.2 ne nf Y e n,free p.1 p.2 Y e n,ne,nf,d⟩
theorem Inv.un(I:Inv X J0 σ H s)(u:Un X.fs [] H H' s.heap h')(W:HOk X.prog X.w H' h'):Inv X J0 σ H' {s with heap:=h',toks:=t'}:=by
 have⟨m,⟨o,es,ep,Z,r⟩,_⟩:=id I.loc;have⟨sl,hL⟩:=u.any Z I.free Ξ
 exact I.step (g':=s.gens) (d':=s.drawn) (ch:=[]) (λ_ z=>nomatch z) (λb o _ hb _ e n=>u.keep b o e n hb Ξ) (λb o _ hb _ e n=>u.slot b o e n hb Ξ) (λb o _ e n=>u.free b o e n Ξ) (λb o _ e=>u.there b o e Ξ) u.tups u.frzs u.tbls u.cts (λm' hm=>by
  have⟨o',Y,U,O,r'⟩:=hm;rw[Z]at O;cases O
  exact⟨_,Y,U,hL,r'⟩) W I.bare
theorem Inv.call{ch:η J4}(I:Inv X J0 σ H s)(u:Un (frs X.stack) ch H H' s.heap h')(Z:HOk X.prog X.w H' h')(hg:za9 g')
 (O:∀b∈ch,(b∈X.ex\/X.s₀.heap.objs.size<=b)/\b≠X.env.locals/\(∀x c,X.env.cells.lookup x=ς c->c≠b)/\∀p∈X.pn++J0,p.1≠b) :
  Inv X J0 σ H' {s with heap:=h',gens:=g',drawn:=d',toks:=t'}:=by
 have⟨m,⟨o,es,ep,ho,r⟩,_⟩:=id I.loc;have⟨sl,Y⟩:=u.any ho I.free λz=>(O _ z).2.1 rfl
 exact I.step (ch:=ch) O (λb o Y hb hc e n=>u.keep b o e n (λz=>(qb9.mp (I.stkSub b z)).elim Y hb) hc) (λb o _ _ hc e n=>u.any e n hc) (λb o hc e n=>u.free b o e n hc) (λb o hc e=>u.there b o e hc) u.tups u.frzs u.tbls u.cts (λm' hm=>by
  have⟨o',es',W,U,r'⟩:=hm;rw[ho]at U;cases U
  exact⟨_,es',W,Y,r'⟩) Z hg
theorem Inv.turned{it:J4}(I:Inv X J0 σ H s)(k:∀b o,b≠it->s.heap.get? b=ς o->h'.get? b=ς o)(W:H it=ψ)(U:it≠X.env.locals)
 (h1:it∈X.ex\/X.s₀.heap.objs.size<=it) (h2:∀x c,X.env.cells.lookup x=ς c->c≠it) (Z:∀p∈X.pn++J0,p.1≠it):Inv X J0 σ H {s with heap:=h',toks:=t'}:=by
 have O:∀b u,H b=ς u->b≠it:=λb u e z=>by rw[z,W]at e;cases e
 refine I.step (g':=s.gens) (d':=s.drawn) (ch:=[it]) (λb hb=>?_) (λb o _ _ hc e _=>k b o (λz=>hc (by simp[z])) e) (λb o _ _ hc e _=>⟨o.slots,k b o (λz=>hc (by simp[z])) e⟩) (λ_ _ _ _ n=>n)
  (λb o hc e=>⟨o,k b o (λz=>hc (by simp[z])) e⟩) (λ_ _ e=>e) (λ_ _ _ e=>e) (λb ps e=>⟨#[],by rw[e];simp⟩) (λ_ _ e=>e) (λm Y=>?_) (λb u e=>?_) I.bare
 .have e:b=it:=‹hb›
  subst e;exact⟨h1,U,h2,Z⟩
 .have⟨o,es,ep,ho,r⟩:=Y;exact⟨o,es,ep,k _ o (qj7 U) ho,r⟩
 .refine(I.hok b u e).stay (λc v hc q=>k c v ?_ q) (λ_ q=>q) (λ_ _ q=>q) λ_ _ _ q=>q
  rcases hc with z|z
  .rw[z];exact O b u e
  .exact O c _ z
theorem Inv.tok(I:Inv X J0 σ H s)(t:Nat):Inv X J0 σ H {s with toks:=t}:=I.un (h':=s.heap) (t':=t) Un.refl I.hok
theorem Inv.kept(I:Inv X J0 σ H s)(k:∀b u,s.heap.get? b=ς u->h'.get? b=ς u):Inv X J0 σ H {s with heap:=h',toks:=t'}:=I.un (Un.kept k) (I.hok.kept k)
theorem Inv.laid {o:HO} (I:Inv X J0 σ H s) (k:∀ b u,s.heap.get? b=ς u->h'.get? b=ς u) (hp:s.heap.objs.size<=a) (new:ObjOk X.prog X.w (upd H a o) h' a o) :
  Inv X J0 σ (upd H a o) {s with heap:=h',toks:=t'}:=I.un (Un.laid k hp (I.hok.fresh hp)) (I.hok.laid k hp new)
theorem Inv.write{x e:J4}{o:HO}(I:Inv X J0 σ H s)(W:Mut (H x))(U:e=x\/H e=ς (.own x))(k:∀b u,b≠e->s.heap.get? b=ς u->h'.get? b=ς u)(O:∃u,h'.get? e=ς u)(new:ObjOk X.prog X.w (upd H x o) h' x o):Inv X J0 σ (upd H x o) {s with heap:=h',toks:=t'}:=I.un (Un.write W U k O) (I.hok.write W U k O new)
theorem Inv.weak{O:η (ζ V)}(I:Inv X J0 σ H s)(hl:O.length=σ.length)(w:∀(i:Nat) v,O[i]?=ς (ς v)->σ[i]?=ς (ς v)):Inv X J0 O H s:=⟨I.ok,I.os,I.bare,I.base,let ⟨m,hn,hl'⟩:=I.loc;⟨m,hn,λi x v U e2 W=>hl' i x v U (w i v e2) W⟩,I.cell,I.free,I.freeC,I.pin,I.hok,hl.trans I.len⟩
theorem Inv.pins_of{O:η (J4×Obj)}(I:Inv X J0 σ H s)(h:∀p∈O,s.heap.get? p.1=ς p.2/\H p.1=ψ/\p.1≠X.env.locals/\p.1∉X.fs/\∀v,p.2.data≠.cell v):Inv X O σ H s:=⟨I.ok,I.os,I.bare,I.base,I.loc,I.cell,I.free,I.freeC,λp hp=>(qg9.mp hp).elim (λz=>I.pin p (List.mem_append_left _ z)) (h p),I.hok,I.len⟩
theorem gU(U:N.Nodup){i:Nat}{x:Str}(a:N[i]?=ς x)(b:N[j]?=ς x):i=j:=by have⟨h1,O⟩:=gX a;have⟨h2,e2⟩:=gX b;exact(List.getElem_inj U).mp (O.trans e2.symm)
theorem je{E:Value->qa8->Prop}{i:Nat}{x:Str}{v:V}{Q:Unit->qa8->Prop}(I:Inv X J0 σ H s)(hN:X.N.Nodup)(hi:X.N[i]?=ς x)(W:Loc X.env.scope x)(r:RelV v u)
 (h:∀s',Inv X J0 (σ.set i (ς v)) H s'->(∃a,qg5 a s.heap s'.heap/\(a=X.env.locals\/X.env.cells.lookup x=ς a))->Q () s') (hf:X.fn x=θ\/X.env.scope.names.lookup x=ς .local:=by first|exact .inl rfl|exact .inr rfl|assumption):wpAny M A (storeName X.env x u) Q E s:=by
 have⟨m,hn,hl⟩:=id I.loc;have hcls:(X.env.scope.kind==.class||(X.env.scope.kind==.module&&X.env.locals != X.env.globals))=ξ:=by rw[I.ok.kind];rfl
 have hiσ:i<σ.length:=by rw[I.len];exact(gX hi).1
 have cne:=I.cne
 have U:∀{a:J4}{h':Heap},(∃o,s.heap.get? a=ς o/\H a=ψ)->qg5 a s.heap h'->HOk X.prog X.w H h':=λ{a h'} ha hs b ob e=>by
  have⟨_,_,Y⟩:=ha;refine(I.hok b ob e).stay (λc w' hc q=>(hs.2 c ?_).trans q) (λ_ q=>q) (λ_ _ q=>q) λ_ _ _ q=>q
  rintro rfl;rcases hc with rfl|hc
  .rw[Y]at e;cases e
  .rw[Y]at hc;cases hc
 rcases W with Z|Z
 .refine wpAny_storeName_local Z hn (λh' hn' hs=>?_) hcls;have⟨oL,_,_,hoL,_⟩:=id hn;refine h _ ⟨I.ok,I.os,I.bare,⟨λb o e n hb W=>?_,λb o e n hb W=>?_,I.base.free,λb o e W=>?_,I.base.tups,I.base.frzs,I.base.tbls,I.base.cts⟩,⟨_,hn',λj y v' O e2 e3=>?_⟩,λy c e=>?_,I.free,I.freeC,λp hp=>?_,U ⟨oL,hoL,I.free⟩ hs,‹I.len›⟩ ⟨_,hs,.inl rfl⟩
  .exact(hs.2 b (qc5 (qc7 (qb4 e) I.ok.above))).trans (I.base.keep b o e n hb W)
  .have⟨sl,O⟩:=I.base.slot b o e n hb W;exact⟨sl,(hs.2 b (qc5 (qc7 (qb4 e) I.ok.above))).trans O⟩
  .have⟨o',O⟩:=I.base.there b o e W;exact⟨o',(hs.2 b (qc5 (qc7 (qb4 e) I.ok.above))).trans O⟩
  .by_cases hj:j=i
   .subst hj;rw[hi]at O;cases O
    rw[qe3 hiσ]at e2;cases e2;exact⟨u,r,.inl ⟨Z,Ξ⟩⟩
   .rw[gN (qj7 hj)]at e2;have⟨u',r',q⟩:=hl j y v' O e2 e3;refine⟨u',r',?_⟩;rcases q with ⟨k,e⟩|⟨k,c,e,z⟩
    .refine .inl ⟨k,?_⟩;have:y≠x:=λe=>hj (gU hN O (e▸hi))
     simp[this,e]
    .exact .inr ⟨k,c,e,z.sameBut hs (cne y c e)⟩
  .have⟨w',z⟩:=I.cell y c e;exact⟨w',z.sameBut hs (cne y c e)⟩
  .have⟨e,n,ne,nf,d⟩:=I.pin p hp;exact⟨(hs.2 p.1 ne).trans e,n,ne,nf,d⟩
 .have hfn:X.fn x=θ:=by
   rcases hf with z|z
   .exact z
   .rw[z]at Z;cases Z
  have⟨c,hc⟩:=I.ok.has x (.inl Z);have⟨w',z⟩:=I.cell x c hc;refine wpAny_storeName_cell I.ok.kind Z hc z (λh' hc' hs=>?_);have⟨oc,hoc,hocd⟩:=id z;refine h {s with heap:=h'} ⟨I.ok,I.os,I.bare,⟨λb o e n hb W=>?_,λb o e n hb W=>?_,I.base.free,λb o e W=>?_,I.base.tups,I.base.frzs,I.base.tbls,I.base.cts⟩,⟨m,hn.sameBut hs (qj7 (cne x c hc)),λj y v' O e2 e3=>?_⟩,λy c' e=>?_,I.free,I.freeC,λp hp=>?_,U ⟨oc,hoc,I.freeC x c hc⟩ hs,‹I.len›⟩ ⟨c,hs,.inr hc⟩
  .exact(hs.2 b (qc5 (qc7 (qb4 e) (I.ok.cab x c hfn hc)))).trans (I.base.keep b o e n hb W)
  .have⟨sl,O⟩:=I.base.slot b o e n hb W;exact⟨sl,(hs.2 b (qc5 (qc7 (qb4 e) (I.ok.cab x c hfn hc)))).trans O⟩
  .have⟨o',O⟩:=I.base.there b o e W;exact⟨o',(hs.2 b (qc5 (qc7 (qb4 e) (I.ok.cab x c hfn hc)))).trans O⟩
  .by_cases hj:j=i
   .subst hj;rw[hi]at O;cases O
    rw[qe3 hiσ]at e2;cases e2;exact⟨u,r,.inr ⟨.inl Z,c,hc,hc'⟩⟩
   .rw[gN (qj7 hj)]at e2;have⟨u',r',q⟩:=hl j y v' O e2 e3;refine⟨u',r',?_⟩;rcases q with q|⟨k,c',e,z'⟩
    .exact .inl q
    .refine .inr ⟨k,c',e,z'.sameBut hs ?_⟩;rintro rfl;exact hj (gU hN O (I.ok.inj _ _ _ e hc▸hi))
  .by_cases hcc:c'=c
   .subst hcc;exact⟨_,hc'⟩
   .have⟨w2,z2⟩:=I.cell y c' e;exact⟨w2,z2.sameBut hs hcc⟩
  .have⟨e,n,ne,nf,d⟩:=I.pin p hp;refine⟨(hs.2 p.1 ?_).trans e,n,ne,nf,d⟩;intro q;rw[q,hoc]at e;have q':oc=p.2:=qd5 e;exact d w' (by rw[<- q'];exact hocd)
theorem dJ{E:Value->qa8->Prop}{i:Nat}{x:Str}{v:V}{Q:Unit->qa8->Prop}(I:Inv X J0 σ H s)(W:X.N.Nodup)(hi:X.N[i]?=ς x)(U:Loc X.env.scope x)(r:RelV v u)
 (h:∀s',Inv X J0 (σ.set i (ς v)) H s'->Q () s') (hf:X.fn x=θ\/X.env.scope.names.lookup x=ς .local:=by first|exact .inl rfl|exact .inr rfl|assumption):wpAny M A (storeName X.env x u) Q E s:=
 je I W hi U r (λs' O _=>h s' O) hf
theorem Inv.call'(I:Inv X J0 σ H s)(Y:s'.os=s.os)(u:Un (frs X.stack) ch H H' s.heap s'.heap)(O:HOk X.prog X.w H' s'.heap)(W:za9 s'.gens)
 (U:∀b∈ch,(b∈X.ex\/X.s₀.heap.objs.size<=b)/\b≠X.env.locals/\(∀x c,X.env.cells.lookup x=ς c->c≠b)/\∀p∈X.pn++J0,p.1≠b):Inv X J0 σ H' s':=by
 have⟨h',g',d',t',o'⟩:=s';have e:o'=s.os:=Y;subst e;exact I.call (g':=g') (t':=t') (d':=d') u O W U
end
abbrev XK:=Value->ζ J4->Hp->Prop
abbrev St:=η (ζ V)
abbrev VK:=V->Hp->Prop
abbrev TE:=St->Hp->VK->Prop
abbrev TT:=St->Hp->(Bool->Hp->Prop)->Prop
abbrev TA:=St->Hp->(η V->Hp->Prop)->Prop
structure Ends where
 nx:St->Hp->Prop
 rt:VK
 bk:St->Hp->Prop:=λ_ _=>False
 ct:St->Hp->Prop:=λ_ _=>False
abbrev TS:=Ends->St->Hp->Prop
def EP(X:Cx)(J0:η (J4×Obj))(σ:St)(Q:VK)(u:Value)(s':qa8):Prop:=∃v H',Inv X J0 σ H' s'/\RelV v u/\Q v H'
def TP(X:Cx)(J0:η (J4×Obj))(σ:St)(Q:Bool->Hp->Prop)(b:Bool)(s':qa8):Prop:=∃H',Inv X J0 σ H' s'/\Q b H'
def AP(X:Cx)(J0:η (J4×Obj))(σ:St)(Q:η V->Hp->Prop)(us:η Value)(s':qa8):Prop:=∃vs H',Inv X J0 σ H' s'/\Vals vs us/\Q vs H'
omit x in
def SP(X:Cx)(J0:η (J4×Obj))(D:Ends)(f:Flow)(s':qa8):Prop:=
 match f with
 |.next=>∃O H',Inv X J0 O H' s'/\D.nx O H'
 |.brk=>∃O H',Inv X J0 O H' s'/\D.bk O H'
 |.cont=>∃O H',Inv X J0 O H' s'/\D.ct O H'
 |.ret u=>∃v O H',Inv X J0 O H' s'/\RelV v u/\D.rt v H'
def PE(X:Cx)(e:J8)(t:TE):Prop:=∀(J0:η (J4×Obj))(s:qa8)(σ:St)(H:Hp)(Q:VK),Inv X J0 σ H s->t σ H Q->wpAny (model X.prog X.w) X.A (eval e X.env) (EP X J0 σ Q) X.xe s
def PT(X:Cx)(e:J8)(t:TT):Prop:=∀(J0:η (J4×Obj))(s:qa8)(σ:St)(H:Hp)(Q:Bool->Hp->Prop),Inv X J0 σ H s->t σ H Q->wpAny (model X.prog X.w) X.A (isTrue e X.env (eval e X.env)) (TP X J0 σ Q) X.xe s
def PW(X:Cx)(e:J8)(t:TT):Prop:=∀(O:Sem Value)(J0:η (J4×Obj))(s:qa8)(σ:St)(H:Hp)(Q:Bool->Hp->Prop),Inv X J0 σ H s->t σ H Q->wpAny (model X.prog X.w) X.A (isTrue e X.env O) (TP X J0 σ Q) X.xe s
variable{X:Cx}{e:J8}
theorem PW.pt{t:TT}(h:PW X e t):PT X e t:=h _
def PABq(X:Cx)(es:η J8)(t:TA):Prop:=∀(pos:Pos)(J0:η (J4×Obj))(s:qa8)(σ:St)(H:Hp)(Q:η V->Hp->Prop),Inv X J0 σ H s->t σ H Q->wpAny (model X.prog X.w) X.A (spliced (qh6 pos (qb3 es X.env))) (AP X J0 σ Q) X.xe s
def PS(X:Cx)(st:J6)(t:TS):Prop:=∀(J0:η (J4×Obj))(s:qa8)(σ:St)(H:Hp)(D:Ends),Inv X J0 σ H s->t D σ H->wpAny (model X.prog X.w) X.A (exec st X.env) (SP X J0 D) X.xe s
def PSs(X:Cx)(st:η J6)(t:TS):Prop:=∀(J0:η (J4×Obj))(s:qa8)(σ:St)(H:Hp)(D:Ends),Inv X J0 σ H s->t D σ H->wpAny (model X.prog X.w) X.A (execs st X.env) (SP X J0 D) X.xe s
theorem thn{α:Type}{t:Sem α}{Q Q':α->qa8->Prop}{E:Value->qa8->Prop}{s:qa8}(h:wpAny M A t Q E s)(O:∀a s,Q a s->Q' a s):wpAny M A t Q' E s:=qn4 h O λ_ _ x=>x
variable{pos:Pos}{J0:η (J4×Obj)}{σ:St}{Q:Value->qa8->Prop}
section
variable{X:Cx}
def pY(i:Nat):TE:=λσ H Q=>∃v,σ[i]?=ς (ς v)/\Q v H
def tC(v:V):TE:=λ_ H Q=>Q v H
theorem zQ{i:Nat}{x:Str}(Z:X.N[i]?=ς x)(hv:Vis X.env.scope x)(W:(x==("__debug__":Str))=ξ:=by decide)(Y:(x==("__classdict__":Str))=ξ:=by decide):PE X (.Name x pos) (pY i):=by
 intro J0 s σ H Q I h;have⟨v,e,h⟩:=h;have⟨m,hn,hl⟩:=I.loc;have⟨u,r,l⟩:=hl i x v Z e hv;have fin:EP X J0 σ Q u s:=⟨v,H,I,r,h⟩;rcases l with ⟨U,hm⟩|⟨U,c,hc,O⟩
 .exact wpAny_Name (wpAny_loadName_local I.ok.kind U hn hm fin) W
 .rcases U with U|U
  .exact wpAny_Name (wpAny_loadName_cell I.ok.kind U hc O fin) W
  .exact wpAny_Name (wpAny_loadName_free I.ok.kind U hc O fin Y) W
theorem zR{i j pos}:PE X (.Constant (.int i) j pos) (tC (.int i)):=λ_ _ _ H _ I h=>wpAny_Constant_int ⟨.int i,H,I.tok _,⟨_,rfl⟩,h⟩
theorem C5{b j pos}:PE X (.Constant (.bool b) j pos) (tC (.bl b)):=λ_ _ _ H _ I h=>Constant_bool ⟨.bl b,H,I,rfl,h⟩
theorem zS{j pos}:PE X (.Constant .none j pos) (tC .non):=λ_ _ _ H _ I h=>Constant_none ⟨.non,H,I,rfl,h⟩
theorem zT{x j pos}:PE X (.Constant (.str x) j pos) (tC (.str x)):=λ_ _ _ H _ I h=>Calls.Constant_str ⟨.str x,H,I.tok _,⟨_,rfl⟩,h⟩
def Gl(X:Cx)(x:Str):Prop:=X.env.kindOf x=ς .globalImplicit
theorem el{E:Value->qa8->Prop}{s:qa8}{x:Str}(I:Inv X J0 σ H s)(U:Gl X x)(W:X.mg x=ς u)(h:Q u s)
 (O:(x==("__debug__":Str))=ξ:=by decide):wpAny (model X.prog X.w) X.A (eval (.Name x pos) X.env) Q E s:=
 qv5 I.ok.kind U (Calls.loadGlobal_global (by rw[I.ok.glob];exact I.mod.glob.keeps I.bk) W h) O
theorem gV{E:Value->qa8->Prop}{s:qa8}{x:Str}(I:Inv X J0 σ H s)(O:Gl X x)(Y:X.mg x=ψ)(U:qf5 x=ς u)(h:Q u s)
 (Z:x≠"__name__":=by decide) (W:(x==("__debug__":Str))=ξ:=by decide):wpAny (model X.prog X.w) X.A (eval (.Name x pos) X.env) Q E s:=by
 have⟨mb,h1,h2⟩:=I.mod.blt;exact qv5 I.ok.kind O (Calls.loadGlobal_builtin (by rw[I.ok.glob];exact I.mod.glob.keeps I.bk) Y (by rw[I.ok.blt];exact h1.keeps I.bk) ((h2 x Z).trans U) h) W
theorem wb{x:Str}{v:V}(U:Gl X x)(W:X.mg x=ς u)(r:RelV v u)(O:(x==("__debug__":Str))=ξ:=by decide):PE X (.Name x pos) (tC v):=λ_ _ _ H _ I h=>el I U W ⟨v,H,I,r,h⟩ O
theorem wc{x:Str}{v:V}(U:Gl X x)(Y:X.mg x=ψ)(W:qf5 x=ς u)(r:RelV v u)(Z:x≠"__name__":=by decide)(O:(x==("__debug__":Str))=ξ:=by decide):PE X (.Name x pos) (tC v):=λ_ _ _ H _ I h=>gV I U Y W ⟨v,H,I,r,h⟩ Z O
variable{a b:J8}{ta tb:TE}{pos:Pos}
variable{tA tB':TT}{rest:η J8}
def tAnd(t u:TT):TT:=λσ H Q=>t σ H λc H1=>if c=θ then u σ H1 Q else Q ξ H1
def tOr(t u:TT):TT:=λσ H Q=>t σ H λc H1=>if c=θ then Q θ H1 else u σ H1 Q
def tNot(t:TT):TT:=λσ H Q=>t σ H λc H1=>Q (!c) H1
theorem we(O:PT X a tA):PW X (.BoolOp .And [a] pos) tA:=by
 intro wh J0 s σ H Q I h;refine isTrue_and (thn (O J0 s σ H Q I h) λc s1 e=>?_);cases c with
 |true=>exact isTrue_and_nil e
 |false=>exact e
theorem zU(O:PT X a tA):PW X (.BoolOp .Or [a] pos) tA:=by
 intro wh J0 s σ H Q I h;refine isTrue_or (thn (O J0 s σ H Q I h) λc s1 e=>?_);cases c with
 |false=>exact isTrue_or_nil e
 |true=>exact e
theorem zV(W:PT X a tA)(hb:PW X (.BoolOp .And (b::rest) pos) tB'):PW X (.BoolOp .And (a::b::rest) pos) (tAnd tA tB'):=by
 intro wh J0 s σ H Q I h;refine isTrue_and (thn (W J0 s σ H _ I h) λc s1 O=>?_);have⟨H1,U,q1⟩:=O;cases c with
 |true=>exact hb wh J0 s1 σ H1 Q U q1
 |false=>exact⟨H1,U,q1⟩
theorem C6(W:PT X a tA)(hb:PW X (.BoolOp .Or (b::rest) pos) tB'):PW X (.BoolOp .Or (a::b::rest) pos) (tOr tA tB'):=by
 intro wh J0 s σ H Q I h;refine isTrue_or (thn (W J0 s σ H _ I h) λc s1 O=>?_);have⟨H1,U,q1⟩:=O;cases c with
 |true=>exact⟨H1,U,q1⟩
 |false=>exact hb wh J0 s1 σ H1 Q U q1
theorem zW(O:PT X a tA):PT X (.UnaryOp .Not a pos) (tNot tA):=by intro J0 s σ H Q I h;exact isTrue_not (O J0 s σ H (λc H1=>Q (!c) H1) I h)
def C7(ta tb:TE):TE:=λσ H Q=>ta σ H λx H1=>∃c,x=.bl c/\if c=θ then tb σ H1 Q else Q (.bl ξ) H1
def C8(ta:TE):TE:=λσ H Q=>ta σ H λx H1=>∃c,x=.bl c/\Q (.bl (!c)) H1
theorem zX{op}{t:TE}(h:PE X a t):PE X (.BoolOp op [a] pos) t:=λJ0 s σ H Q I O=>BoolOp_one (h J0 s σ H Q I O)
theorem zY(W:PE X a ta)(hb:PE X (.BoolOp .And (b::rest) pos) tb):PE X (.BoolOp .And (a::b::rest) pos) (C7 ta tb):=by
 intro J0 s σ H Q I h;refine BoolOp_and (thn (W J0 s σ H _ I h) λv s1 O=>?_);have⟨x,H1,U,Y,q1⟩:=O;have⟨c,rfl,q1⟩:=q1;cases Y;refine qs7 ?_;cases c with
 |true=>exact hb J0 s1 σ H1 Q U q1
 |false=>exact⟨.bl ξ,H1,U,rfl,q1⟩
theorem zZ(U:PE X a ta):PE X (.UnaryOp .Not a pos) (C8 ta):=by intro J0 s σ H Q I h;refine UnaryOp_ (thn (U J0 s σ H _ I h) λv s1 O=>?_);have⟨x,H1,Y,W,q1⟩:=O;have⟨c,rfl,q1⟩:=q1;cases W;exact not_of (qs7 ⟨.bl (!c),H1,Y,rfl,q1⟩)
def tIf(t:TT)(ta tb:TE):TE:=λσ H Q=>t σ H λc H1=>if c=θ then ta σ H1 Q else tb σ H1 Q
theorem rH{c:J8}(hc:PT X c tA)(W:PE X a ta)(hb:PE X b tb):PE X (.IfExp c a b pos) (tIf tA ta tb):=by
 intro J0 s σ H Q I h;refine wpAny_IfExp (thn (hc J0 s σ H _ I h) λd s1 O=>?_);have⟨H1,U,q1⟩:=O;cases d with
 |true=>exact W J0 s1 σ H1 Q U q1
 |false=>exact hb J0 s1 σ H1 Q U q1
end
def SqL(K:xA9)(H:Hp)(a:J4)(xs:η V):Prop:=Rd H a (.e xs)\/∃(o:Obj)(J3:Array Value)(n:Nat),K.lookup a=ς o/\o.cls=.type "list"/\o.dict=ψ/\o.data=.seq J3 n/\J3.size<=qa5/\Vals xs J3.toList
def SqT(K:xA9)(H:Hp)(a:J4)(xs:η V):Prop:=H a=ς (.t xs)\/∃(o:Obj)(J3:Array Value)(n:Nat),K.lookup a=ς o/\o.cls=.type "tuple"/\(o.data=.seq J3 n/\o.dict=ψ)/\J3.size<=qa5/\Vals xs J3.toList
noncomputable def absV:Value->ζ V
 |.none=>ς .non
 |.bool b=>ς (.bl b)
 |.int i _=>ς (.int i)
 |.str x _=>ς (.str x)
 |.bytes b _=>ς (.byt b)
 |.float b _=>ς (.flt b)
 |.ref a=>ς (.ref a)
 |.type n=>ς (.ty n)
 |_=>ψ
theorem RelV.abs{x:V}(r:RelV x u):absV u=ς x:=by
 cases x with
 |non=>cases r;rfl
 |bl _=>cases r;rfl
 |int _=>have⟨t,rfl⟩:=r;rfl
 |str _=>have⟨t,rfl⟩:=r;rfl
 |byt _=>have⟨t,rfl⟩:=r;rfl
 |flt _=>have⟨t,rfl⟩:=r;rfl
 |ref _=>cases r;rfl
 |ty _=>cases r;rfl
variable{y:V}
theorem RelV.inj{x:V}(r:RelV x u)(q:RelV y u):x=y:=qd5 (r.abs.symm.trans q.abs)
theorem Vals.inj:∀{xs ys:η V}{us:η Value},Vals xs us->Vals ys us->xs=ys
 |_,_,_,.nil,.nil=>rfl
 |_,_,_,.cons r t,.cons O t'=>by rw[r.inj O,Vals.inj t t']
variable{K:xA9}
section
variable{X:Cx}{J0:η (J4×Obj)}{σ:St}{H:Hp}{s:qa8}{a:J4}{xs ys:η V}
theorem SqL.of(h:H a=ς (.e xs)):SqL K H a xs:=.inl (.inl h)
theorem SqT.of(h:H a=ς (.t xs)):SqT K H a xs:=.inl h
theorem Inv.list(I:Inv X J0 σ H s)(h:SqL X.K H a xs):∃J3:η Value,Vals xs J3/\PlainL s.heap a J3.toArray/\xs.length<=qa5:=by
 rcases h with h|⟨o,J3,n,U,hc,O,hs,hz,r⟩
 .have⟨z,J3,n,r,e⟩:=h.ok I.hok;exact⟨J3,r,⟨_,n,e,rfl,rfl,rfl⟩,z⟩
 .refine⟨J3.toList,r,⟨o,n,I.kIn a o U,hc,O,‹hs›⟩,?_⟩;have e:=r.length;rwa[qq2]at e;lia
theorem Inv.tup(I:Inv X J0 σ H s)(h:SqT X.K H a xs):∃J3:η Value,Vals xs J3/\IsTu s.heap a J3.toArray/\xs.length<=qa5:=by
 rcases h with h|⟨o,J3,n,O,hc,hs,hz,r⟩
 .have⟨z,J3,r,p⟩:=(Rd.of h).ok I.hok;exact⟨J3,r,p,z⟩
 .refine⟨J3.toList,r,.of (n:=n) (I.kIn a o O) hc ‹hs.1› hs.2,?_⟩;have e:=r.length;rwa[qq2]at e;lia
theorem Inv.tuple(I:Inv X J0 σ H s)(h:SqT X.K H a xs):∃J3:η Value,Vals xs J3/\IsTup s.heap a J3.toArray/\xs.length<=qa5:=let ⟨J3,r,p,z⟩:=I.tup h;⟨J3,r,p.1,z⟩
theorem Inv.list_inj(I:Inv X J0 σ H s)(h:SqL X.K H a xs)(h':SqL X.K H a ys):xs=ys:=by
 have⟨J3,r,⟨o,n,e,_,_,d⟩,_⟩:=I.list h;have⟨its',U,⟨o',n',O,_,_,d'⟩,_⟩:=I.list h';rw[e]at O;cases O
 rw[d]at d';injection d' with d1 _;have:J3=its':=‹congrArg Array.toList d1›
 subst this;exact r.inj U
theorem Inv.tuple_inj(I:Inv X J0 σ H s)(h:SqT X.K H a xs)(h':SqT X.K H a ys):xs=ys:=by
 have⟨J3,r,⟨o,e,_,n,d⟩,_⟩:=I.tuple h;have⟨its',U,⟨o',O,_,n',d'⟩,_⟩:=I.tuple h';rw[e]at O;cases O
 rw[d]at d';injection d' with d1 _;have:J3=its':=‹congrArg Array.toList d1›
 subst this;exact r.inj U
end
noncomputable abbrev Cx.wish(X:Cx)(E:Value->qa8->Prop):Cx:={X with xe:=E}
abbrev Cx.nox(X:Cx):Cx:=X.wish λ_ _=>False
theorem Cx.Ok.wish(ok:X.Ok)(E:Value->qa8->Prop):(X.wish E).Ok:=⟨ok.mod,ok.kind,ok.glob,ok.blt,ok.above,ok.inj,ok.has,ok.cab,ok.hd,ok.frames,ok.stk,ok.exf,ok.bs,ok.bsz,ok.noex,ok.exfs,ok.funs,ok.frf,ok.tb⟩
theorem Cx.Ok.unwish{E:Value->qa8->Prop}(ok:(X.wish E).Ok):X.Ok:=⟨ok.mod,ok.kind,ok.glob,ok.blt,ok.above,ok.inj,ok.has,ok.cab,ok.hd,ok.frames,ok.stk,ok.exf,ok.bs,ok.bsz,ok.noex,ok.exfs,ok.funs,ok.frf,ok.tb⟩
section
variable{X:Cx}{J0:η (J4×Obj)}{σ:St}{H:Hp}{s:qa8}{E:Value->qa8->Prop}
theorem Inv.wish(I:Inv X J0 σ H s)(E:Value->qa8->Prop):Inv (X.wish E) J0 σ H s:=⟨I.ok.wish E,I.os,I.bare,I.base,I.loc,I.cell,I.free,I.freeC,I.pin,I.hok,I.len⟩
theorem Inv.unwish(I:Inv (X.wish E) J0 σ H s):Inv X J0 σ H s:=⟨I.ok.unwish,I.os,I.bare,I.base,I.loc,I.cell,I.free,I.freeC,I.pin,I.hok,I.len⟩
omit x in
theorem SP.unwish{D:Ends}{f:Flow}(h:SP (X.wish E) J0 D f s'):SP X J0 D f s':=by
 cases f with
 |next=>have⟨O,H',I,q⟩:=h;exact⟨O,H',I.unwish,q⟩
 |brk=>have⟨O,H',I,q⟩:=h;exact⟨O,H',I.unwish,q⟩
 |cont=>have⟨O,H',I,q⟩:=h;exact⟨O,H',I.unwish,q⟩
 |ret u=>have⟨v,O,H',I,r,q⟩:=h;exact⟨v,O,H',I.unwish,r,q⟩
theorem PSs.nox{st:η J6}{t:TS}(h:PSs X.nox st t):PSs X st t:=λJ0 s σ H D I O=>qn4 (h J0 s σ H D (I.wish _) O) (λ_ _ q=>q.unwish) λ_ _ z=>qk2 z
end
variable{tc:TT}
section
variable{X:Cx}{st:J6}{rest:η J6}{t u:TS}{e:J8}{te:TE}{pos:Pos}
def rJ:TS:=λD σ H=>D.nx σ H
def tSeq(t u:TS):TS:=λD σ H=>t {D with nx:=u D} σ H
theorem wf:PSs X [] rJ:=λ_ _ σ H _ I h=>zb0 ⟨σ,H,I,h⟩
omit x in
theorem rK(h1:PS X st t)(h2:PSs X rest u):PSs X (st::rest) (tSeq t u):=by
 intro J0 s σ H D I h;refine wpAny_execs_cons (thn (h1 J0 s σ H {D with nx:=u D} I h) λf s1 q=>?_);cases f with
 |next=>have⟨O,H',U,q⟩:=q;exact h2 J0 s1 O H' D U q
 |ret v=>exact q
 |brk=>exact q
 |cont=>exact q
def z0:TS:=λD σ H=>D.bk σ H
theorem wg:PS X (.Pass pos) rJ:=λ_ _ σ H _ I h=>wpAny_Pass ⟨σ,H,I,h⟩
theorem rL:PS X (.Break pos) z0:=λ_ _ σ H _ I h=>wpAny_Break ⟨σ,H,I,h⟩
theorem Inv.quiet{s:qa8}(I:Inv X J0 σ H s):interactive X.env=ξ:=by simp[interactive,I.ok.kind]
omit x in
theorem z6{x j pos pos'}:PS X (.Expr (.Constant (.str x) j pos) pos') rJ:=λ_ s σ H _ I h=>wpAny_Expr (Calls.Constant_str (show SP X _ _ .next {s with toks:=s.toks+1} from⟨σ,H,I.tok _,h⟩)) I.quiet
def C9(te:TE):TS:=λD σ H=>te σ H λ_ H1=>D.nx σ H1
theorem cg(U:PE X e te)(hs:qi0 e ψ pos.line X.env=pure ξ:=by rfl):PS X (.Expr e pos) (C9 te):=by intro J0 s σ H D I h;exact wpAny_Expr_any (thn (U J0 s σ H _ I h) λv s1 O=>by have⟨x,H1,W,Y,q1⟩:=O;exact⟨σ,H1,W,q1⟩) I.quiet hs
def tRet(te:TE):TS:=λD σ H=>te σ H D.rt
theorem z7(W:PE X e te):PS X (.Return (ς e) pos) (tRet te):=by intro J0 s σ H D I h;exact wpAny_Return_some (thn (W J0 s σ H _ I h) λv s1 O=>by have⟨x,H1,Y,U,q1⟩:=O;exact⟨x,σ,H1,Y,U,q1⟩)
def Db:TS:=λD _ H=>D.rt .non H
theorem wj:PS X (.Return ψ pos) Db:=λ_ _ σ H _ I h=>wpAny_Return_none ⟨.non,σ,H,I,rfl,h⟩
def tIfS(c:TT)(t u:TS):TS:=λD σ H=>c σ H λb H1=>if b=θ then t D σ H1 else u D σ H1
theorem Dc{c:J8}{a b:η J6}(hc:PT X c tc)(W:PSs X a t)(hb:PSs X b u):PS X (.If c a b pos) (tIfS tc t u):=by
 intro J0 s σ H D I h;refine wpAny_If (thn (hc J0 s σ H _ I h) λd s1 O=>?_);have⟨H1,U,q1⟩:=O;cases d with
 |true=>exact W J0 s1 σ H1 D U q1
 |false=>exact hb J0 s1 σ H1 D U q1
end
abbrev TG:=V->St->Hp->(St->Hp->Prop)->Prop
abbrev TGs:=η V->St->Hp->(St->Hp->Prop)->Prop
def PG(X:Cx)(O:J8)(t:TG):Prop:=
 ∀(J0:η (J4×Obj))(s:qa8)(σ:St)(H:Hp)(v:V)(u:Value)(Q:St->Hp->Prop),Inv X J0 σ H s->RelV v u->t v σ H Q→
  wpAny (model X.prog X.w) X.A (qz4 O X.env u) (λ_ s'=>∃U H',Inv X J0 U H' s'/\Q U H') X.xe s
def PGs(X:Cx)(ts:η J8)(t:TGs):Prop:=
 ∀(J0:η (J4×Obj))(s:qa8)(σ:St)(H:Hp)(vs:η V)(us:η Value)(Q:St->Hp->Prop),Inv X J0 σ H s->Vals vs us->t vs σ H Q→
  wpAny (model X.prog X.w) X.A (assignInOrder ((qi2 ts X.env).map (·.2)) us) (λ_ s'=>∃O H',Inv X J0 O H' s'/\Q O H') X.xe s
abbrev rM:=V->V->V->Hp->(Hp->Prop)->Prop
def PSet(X:Cx)(t:rM):Prop:=
 ∀(J0:η (J4×Obj))(s:qa8)(σ:St)(H:Hp)(o i v:V)(O iv u:Value)(Q:Hp->Prop),Inv X J0 σ H s->RelV o O->RelV i iv->RelV v u->t o i v H Q→
  wpAny (model X.prog X.w) X.A (setItem O iv u) (λ_ s'=>∃H',Inv X J0 σ H' s'/\Q H') X.xe s
abbrev TIp:=V->V->Hp->VK->Prop
def PIp(X:Cx)(op:qp3)(t:TIp):Prop:=
 ∀(J0:η (J4×Obj))(s:qa8)(σ:St)(H:Hp)(x y:V)(v u:Value)(Q:VK),Inv X J0 σ H s->RelV x v->RelV y u->t x y H Q→
  wpAny (model X.prog X.w) X.A (inplaceOp op v u) (EP X J0 σ Q) X.xe s
variable{es:η J8}{tg:J8}{te:TE}{pos':Pos}
section
variable{X:Cx}{pos:Pos}
def er(i:Nat):TG:=λv σ H Q=>Q (σ.set i (ς v)) H
theorem n9{i:Nat}{x:Str}(U:X.N.Nodup)(hi:X.N[i]?=ς x)(W:Loc X.env.scope x)(hf:X.fn x=θ\/X.env.scope.names.lookup x=ς .local:=by first|exact .inl rfl|exact .inr rfl|assumption):PG X (.Name x pos) (er i):=by intro J0 s σ H v u Q I r h;exact wpAny_assign_Name (dJ I U hi W r (λs' O=>⟨_,H,O,h⟩) hf)
def gNil:TGs:=λvs σ H Q=>vs=[]/\Q σ H
def Dg(t:TG)(u:TGs):TGs:=λvs σ H Q=>∃v r,vs=v::r/\t v σ H λO H'=>u r O H' Q
theorem wl:PGs X [] gNil:=by intro J0 s σ H vs us Q I r h;have⟨e,h⟩:=h;subst e;cases r;exact assignInOrder_nil ⟨σ,H,I,h⟩
theorem rN{t:TG}{u:TGs}(h1:PG X e t)(h2:PGs X es u)
 (hs:(qi2 (e::es) X.env).map (·.2)=qz4 e X.env::(qi2 es X.env).map (·.2):=by rfl):PGs X (e::es) (Dg t u):=by
 intro J0 s σ H vs us Q I r h;have⟨v,vr,W,h⟩:=h;subst W;cases r with
 |cons r Y=>rw[hs];refine assignInOrder_cons (thn (h1 J0 s σ H _ _ _ I r h) λ_ s1 O=>?_);have⟨U,H1,Z,q1⟩:=O;exact h2 J0 s1 U H1 _ _ Q Z Y q1
def gTup(K:xA9)(n:Nat)(t:TGs):TG:=λv σ H Q=>∃a xs,v=.ref a/\SqT K H a xs/\xs.length=n/\t xs σ H Q
theorem z8{k:Nat}{t:TGs}{n:Nat}(hc:X.calm=θ)(h:PGs X es t)
 (hn:(qi2 es X.env).length=n:=by rfl) (U:(qi2 es X.env).findIdx? (·.1)=ψ:=by rfl):PG X (.Tuple es k pos) (gTup X.K n t):=by
 intro J0 s σ H v u Q I r O;have⟨a,xs,Y,hq,hl,O⟩:=O;subst Y;cases r;have⟨J3,W,Z,hz⟩:=I.tuple hq;refine assign_Tuple_tuple (I.ok.hd hc) Z (by simp[hn,<- hl,W.length]) U λh' hx=>?_
 have I1:Inv X J0 σ H {s with heap:=h'}:=I.kept (t':=s.toks) λb o e=>hx b o (qc5 (qb4 e)) e
 exact h J0 _ σ H xs _ Q I1 ‹W› O
def gSub(to O:TE)(t:rM):TG:=λv σ H Q=>to σ H λo H1=>O σ H1 λi H2=>t o i v H2 λU=>Q σ U
theorem z9 {o i:J8} {to Z:TE} {t:rM} (ho:PE X o to) (hi:PE X i Z) (hs:PSet X t)
  (ha:∀v,qz4 (.Subscript o i pos) X.env v=(do
   let O <- qo9 [v] (eval o X.env);let iv <- qo9 [v,O] (eval i X.env)
   qw6 pos
   qo9 [v,O,iv] (setItem O iv v)
   release [v,O,iv] []):=by intro _;rfl):PG X (.Subscript o i pos) (gSub to Z t):=by
 intro J0 s σ H v u Q I r h;rw[ha];refine wB (qm8 (thn (ho J0 s σ H _ I h) λO s1 W=>?_));have⟨x,H1,I1,r1,q1⟩:=W;refine wB (qm8 (thn (hi J0 s1 σ H1 _ I1 q1) λiv s2 Y=>?_));have⟨y,H2,I2,r2,q2⟩:=Y;refine wB (zd7 (wB (qm8 (thn (hs J0 s2 σ H2 x y v O iv u _ I2 r1 r2 r q2) λ_ s3 U=>?_))));have⟨H3,I3,q3⟩:=U;exact wpAny_release ⟨σ,H3,I3,q3⟩
def wm(te:TE)(g:TG):TS:=λD σ H=>te σ H λx H1=>g x σ H1 D.nx
theorem rO{g:TG}(W:PE X e te)(Y:PG X tg g)(hs:qu5 [tg] e pos.line X.env=pure ξ:=by rfl)(hw:zd8 [tg] e X.env=pure ψ:=by rfl)
 (h1:(qi2 [tg] X.env).map (·.2)=[qz4 tg X.env]:=by rfl):PS X (.Assign [tg] e pos) (wm te g):=by
 intro J0 s σ H D I h;refine wpAny_Assign_stores (thn (W J0 s σ H _ I h) λv s1 O=>?_) hs hw;have⟨x,H1,Z,U,q1⟩:=O;rw[h1];exact thn (Y J0 s1 σ H1 x v _ Z U q1) λ_ s2 q=>q
theorem Aa {i:Nat} {x:Str} (hN:X.N.Nodup) (hi:X.N[i]?=ς x) (hx:Loc X.env.scope x) (W:PE X e te) (hs:qi0 e (ς (.Name x pos')) pos.line X.env=pure ξ:=by rfl) (hf:X.fn x=θ\/X.env.scope.names.lookup x=ς .local:=by first | exact .inl rfl | exact .inr rfl | assumption) :
  PS X (.Assign [.Name x pos'] e pos) (wm te (er i)):=by
 intro J0 s σ H D I h;refine wpAny_Assign_Name (thn (W J0 s σ H _ I h) λv s1 O=>?_) hs;have⟨y,H1,Y,U,q1⟩:=O;exact dJ Y hN hi hx U (λs2 Z=>⟨_,H1,Z,q1⟩) hf
def tAug(i:Nat)(te:TE)(O:TIp):TS:=λD σ H=>∃x,σ[i]?=ς (ς x)/\te σ H λy H1=>O x y H1 λz H2=>D.nx (σ.set i (ς z)) H2
omit x in
theorem Ab {i:Nat} {x:Str} {op:qp3} {ti:TIp} (hN:X.N.Nodup) (hi:X.N[i]?=ς x) (hx:Loc X.env.scope x) (he:PE X e te) (ho:PIp X op ti) (hf:X.fn x=θ\/X.env.scope.names.lookup x=ς .local:=by first | exact .inl rfl | exact .inr rfl | assumption) :
  PS X (.AugAssign (.Name x pos') op e pos) (tAug i te ti):=by
 intro J0 s σ H D I h;have⟨v,e1,h⟩:=h;have⟨m,hn,hl⟩:=I.loc;have vis:Vis X.env.scope x:=by rcases hx with k|k;exact .inl k;exact .inr (.inl k)
 have⟨u,r,l⟩:=hl i x v hi e1 vis;refine wpAny_AugAssign_Name ?_
 have go:wpAny (model X.prog X.w) X.A (eval e X.env) (λw W=>wpAny (model X.prog X.w) X.A (inplaceOp op u w) (λr s₃=>wpAny (model X.prog X.w) X.A (storeName X.env x r) (λ_=>SP X J0 D .next) X.xe s₃) X.xe W) X.xe s:=by
  refine thn (he J0 s σ H _ I h) λw s1 Z=>?_
  have⟨y,H1,I1,r1,q1⟩:=Z;refine thn (ho J0 s1 σ H1 v y u w _ I1 r r1 q1) λz s2 Y=>?_
  have⟨zv,H2,I2,r2,q2⟩:=Y;exact dJ I2 hN hi hx r2 (λs3 I3=>⟨_,H2,I3,q2⟩) hf
 rcases l with ⟨O,hm⟩|⟨O,c,hc,U⟩
 .exact wpAny_loadName_local I.ok.kind O hn hm go
 .rcases O with O|O
  .exact wpAny_loadName_cell I.ok.kind O hc U go
  .rcases hx with k|k
   .have:X.env.scope.names.lookup x=ς .free:=O;rw[k]at this;cases this
   .have:X.env.scope.names.lookup x=ς .free:=O;rw[k]at this;cases this
def ipI(f:Int->Int->Int):TIp:=λx y H Q=>∃i j,x=.int i/\y=.int j/\Q (.int (f i j)) H
theorem Ac:PIp X .Add (ipI λi j=>i+j):=by intro J0 s σ H x y v u Q I U W h;have⟨i,j,O,e2,q⟩:=h;subst O;subst e2;have⟨t,rfl⟩:=U;have⟨t',rfl⟩:=W;exact iadd_int ⟨.int _,H,I.tok _,⟨_,rfl⟩,q⟩
end
variable{body:η J6}{tb:TS}
section
variable{X:Cx}{pos:Pos}
def Ad(c:TT)(tb:TS):TS:=λD σ H=>∃W:Nat->St->Hp->Prop,(∃m,W m σ H)/\∀m σ H,W m σ H→
 c σ H λb H1=>if b=θ then ∃N:St->Hp->Prop,(∀O H',N O H'->∃U,U<m/\W U O H')/\tb {D with nx:=N,ct:=N,bk:=D.nx} σ H1 else D.nx σ H1
omit x in
theorem rP{c:J8}(hp:zb1 (model X.prog X.w) X.A X.env X.xe)(hc:PT X c tc)(hb:PSs X body tb):PS X (.While c body [] pos) (Ad tc tb):=by
 intro J0 s σ H D I h;have⟨W,⟨m0,w0⟩,Y⟩:=h;refine wpAny_While (codeAny_whileLoop (λn s'=>∃ σ' H',Inv X J0 σ' H' s'/\W n σ' H') ?_ m0 ⟨σ,H,I,w0⟩);rintro n s1 ⟨U,H1,I1,w1⟩;refine qm1 hp (thn (hc J0 s1 U H1 _ I1 (Y n U H1 w1)) λb s2 Z=>?_);have⟨H2,I2,q2⟩:=Z;cases b with
 |true=>
  have⟨N,hN,q2⟩:=q2;rw[if_pos rfl];refine qm1 hp (thn (hb J0 s2 U H2 _ I2 q2) λf s3 q3=>?_);cases f with
  |next=>have⟨O,H3,I3,n3⟩:=q3;have⟨m',hm,w3⟩:=hN O H3 n3;exact⟨m',hm,O,H3,I3,w3⟩
  |cont=>have⟨O,H3,I3,n3⟩:=q3;have⟨m',hm,w3⟩:=hN O H3 n3;exact⟨m',hm,O,H3,I3,w3⟩
  |brk=>exact q3
  |ret v=>exact q3
 |false=>rw[if_neg qb6];exact zb0 ⟨U,H2,I2,q2⟩
end
structure It where
 go:Nat->Hp->Prop
 yld:Nat->Hp->V->Hp->Prop
 stop:Nat->Hp->Prop
def dL(X:Cx)(J0:η (J4×Obj))(H:Hp)(b:J4):Prop:=H b=ψ/\b≠X.env.locals/\b∉X.fs/\(b∈X.ex\/X.s₀.heap.objs.size<=b)/\(∀x c,X.env.cells.lookup x=ς c->c≠b)/\∀p∈X.pn++J0,p.1≠b
theorem Inv.fpOk{H':Hp}{s:qa8}{b:J4}(I:Inv X J0 σ H s)(hb:s.heap.objs.size<=b)(O:H' b=ψ):dL X J0 H' b:=by
 refine⟨O,qi6 (qc7 I.lt hb),I.nofs hb,.inr (qd7 I.sz hb),λx c e z=>?_,λp hp z=>?_⟩
 .have⟨v,q⟩:=I.cell x c e;exact absurd (qc7 q.lt (by rw[z];exact hb)) (qm7 _)
 .exact absurd (qc7 (qb4 (I.pin p hp).1) (by rw[z];exact hb)) (qm7 _)
structure Turn(P:qe5)(w:J5)(K:xA9)(tg:J8)(J:It)(fp:List J4)(it:J4)(tn:Nat->Heap->Prop):Prop where
 mem:it∈fp
 obj:∀i h,tn i h->∀b∈fp,∃o,h.get? b=ς o/\∀v,o.data≠.cell v
 keep:∀i h h',tn i h->(∀b∈fp,∀o,h.get? b=ς o->h'.get? b=ς o)->tn i h'
 item:∀(X:Cx),X.prog=P->X.w=w->X.K=K->X.calm=θ->∀(i:Nat)(J0:List (J4×Obj))(s:qa8)(σ:St)(H:Hp)(E:Value->qa8->Prop),Inv X J0 σ H s->(∀b∈fp,dL X J0 H b)->tn i s.heap->J.go i H→
  wpAny (model P w) X.A (qz5 (.ref it)) (λr s1=>∃u,r=ς u∧wpAny (model P w) X.A (qu9 tg (.ref it) u) (λ_ s2=>∃x H',Inv X J0 σ H' s2/\RelV x u/\J.yld i H x H'/\tn (i+1) s2.heap/\∀b∈fp,H' b=ψ) E s1) E s
 done:∀(X:Cx),X.prog=P->X.w=w->X.K=K->X.calm=θ->∀(i:Nat)(J0:List (J4×Obj))(s:qa8)(σ:St)(H:Hp)(E:Value->qa8->Prop),Inv X J0 σ H s->(∀b∈fp,dL X J0 H b)->tn i s.heap->J.stop i H→
  wpAny (model P w) X.A (qz5 (.ref it)) (λr s1=>r=ψ/\Inv X J0 σ H s1) E s
 self:∀(A:ql0)(i:Nat)(s:qa8)(Q E:Value->qa8->Prop),tn i s.heap->Q (.ref it) s->wpAny (model P w) A (pyIter (.ref it)) Q E s
abbrev TI:=St->Hp->(It->Hp->Prop)->Prop
def PIE(X:Cx)(J0:η (J4×Obj))(σ:St)(tg:J8)(R:It->Hp->Prop)(O:Value)(U:qa8):Prop:=∃(it:J4)(fp:η J4)(tn:Nat->Heap->Prop)(J:It)(H':Hp),O=.ref it/\Inv X J0 σ H' U/\Turn X.prog X.w X.K tg J fp it tn/\tn 0 U.heap/\(∀b∈fp,dL X J0 H' b)/\R J H'
def PI(X:Cx)(tg iter:J8)(wi:TI):Prop:=
 ∀(J0:η (J4×Obj))(s:qa8)(σ:St)(H:Hp)(R:It->Hp->Prop),Inv X J0 σ H s->wi σ H R→
  wpAny (model X.prog X.w) X.A (eval iter X.env) (λv s1=>wpAny (model X.prog X.w) X.A (pyIter v) (PIE X J0 σ tg R) X.xe s1) X.xe s
theorem rQ{E:Value->qa8->Prop}{s:qa8}{it:J4}{o:Obj}{n:String}{vs:Array Value}{Q:Unit->qa8->Prop}(W:s.heap.get? it=ς o)(hc:o.cls=.type n)(U:o.data=.fields vs)
 (Y:["enumerate","zip","dict_itemiterator","dict_reverseitemiterator","odict_iterator","itertools.zip_longest","itertools.pairwise"].contains n=ξ) (O:Q () s):wpAny M A (qu9 tg (.ref it) u) Q E s:=by
 unfold qu9
 cases tg<;>first
  |exact qa6 O
  | (cases u<;>first
      |exact qa6 O
      | (refine wB (wpAny_load W ?_)
         rw[hc,U];show wpAny M A (if(["enumerate","zip","dict_itemiterator","dict_reverseitemiterator","odict_iterator","itertools.zip_longest","itertools.pairwise"].contains n&&vs[0]?==ς (qv8 _))=θ then _ else _) Q E s;rw[if_neg (by intro h;rw[Y,zd0]at h;cases h)];exact qa6 O))
noncomputable def Itl(K:xA9)(a:J4):It:=⟨λi H=>∃xs x,SqL K H a xs/\xs[i]?=ς x,λi H x H'=>H'=H/\∀xs,SqL K H a xs->xs[i]?=ς x,λi H=>∃xs,SqL K H a xs/\xs.length<=i⟩
noncomputable def Itt(K:xA9)(a:J4):It:=⟨λi H=>∃xs x,SqT K H a xs/\xs[i]?=ς x,λi H x H'=>H'=H/\∀xs,SqT K H a xs->xs[i]?=ς x,λi H=>∃xs,SqT K H a xs/\xs.length<=i⟩
noncomputable def Itr(lo:Int)(n:Nat):It:=⟨λi _=>i<n,λi H x H'=>H'=H/\x=.int (lo+i),λi _=>n<=i⟩
theorem pZ{w:J5}(a it:J4):Turn P w K tg (Itl K a) [it] it (λi h=>h.IsListIter it a i) where
 mem:=by simp
 obj:=λi h st b hb=>by
  have e:b=it:=‹hb›
  subst e;have⟨o,e,c,d⟩:=st;exact⟨o,e,λv z=>by rw[d]at z;cases z⟩
 keep:=λi h h' st k=>st.at λo e=>k it Ξ o e
 item:=by
  intro X hP hw hK hc i J0 s σ H E I hf st hg;subst hP hw hK;have⟨xs,x,U,hx⟩:=hg;have⟨J3,rv,p,hz⟩:=I.list U;have⟨u,hu,ru⟩:=rv.get hx;have⟨f0,W,f2,Z,f4,Y⟩:=hf it Ξ;refine za0 st p.isList (x:=u) ‹hu› λh' O sb=>?_
  have I1:Inv X J0 σ H {s with heap:=h'}:=I.turned (t':=s.toks) (λb o hb e=>(sb.2 b hb).trans e) f0 W Z f4 Y;have⟨o,e,c,d⟩:=id O;exact⟨u,rfl,rQ (s:={s with heap:=h'}) e c d Ω ⟨x,H,I1,ru,⟨rfl,λys hy=>by rw[I.list_inj hy U];exact hx⟩,O,λb hb=>(hf b hb).1⟩⟩
 done:=by intro X hP hw hK hc i J0 s σ H E I hf st hg;subst hP hw hK;have⟨xs,U,hx⟩:=hg;have⟨J3,rv,p,hz⟩:=I.list U;have⟨f0,W,f2,Z,f4,Y⟩:=hf it Ξ;have hl:=rv.length;exact zb2 (I.ok.hd hc) st p.isList (by simp;lia) λh' eb=>⟨rfl,I.turned (t':=s.toks) (λb o hb e=>eb b o hb e) f0 W Z f4 Y⟩
 self:=λ_ _ _ _ _ st h=>wpAny_pyIter_listiter st h
theorem mJ{w:J5}(a it:J4):Turn P w K tg (Itt K a) [it] it (λi h=>h.IsTupleIter it a i) where
 mem:=by simp
 obj:=λi h st b hb=>by
  have e:b=it:=‹hb›
  subst e;have⟨o,e,c,d⟩:=st;exact⟨o,e,λv z=>by rw[d]at z;cases z⟩
 keep:=λi h h' st k=>st.at λo e=>k it Ξ o e
 item:=by
  intro X hP hw hK hc i J0 s σ H E I hf st hg;subst hP hw hK;have⟨xs,x,U,hx⟩:=hg;have⟨J3,rv,p,hz⟩:=I.tuple U;have⟨u,hu,ru⟩:=rv.get hx;have⟨f0,W,f2,Z,f4,Y⟩:=hf it Ξ;refine qy7 st (show s.heap.IsTuple a J3.toArray from p) (x:=u) ‹hu› λh' O sb=>?_
  have I1:Inv X J0 σ H {s with heap:=h'}:=I.turned (t':=s.toks) (λb o hb e=>(sb.2 b hb).trans e) f0 W Z f4 Y;have⟨o,e,c,d⟩:=id O;exact⟨u,rfl,rQ (s:={s with heap:=h'}) e c d Ω ⟨x,H,I1,ru,⟨rfl,λys hy=>by rw[I.tuple_inj hy U];exact hx⟩,O,λb hb=>(hf b hb).1⟩⟩
 done:=by intro X hP hw hK hc i J0 s σ H E I hf st hg;subst hP hw hK;have⟨xs,U,hx⟩:=hg;have⟨J3,rv,p,hz⟩:=I.tuple U;have⟨f0,W,f2,Z,f4,Y⟩:=hf it Ξ;have hl:=rv.length;exact za1 (I.ok.hd hc) st (show s.heap.IsTuple a J3.toArray from p) (by simp;lia) λh' eb=>⟨rfl,I.turned (t':=s.toks) (λb o hb e=>eb b o hb e) f0 W Z f4 Y⟩
 self:=λ_ _ _ _ _ st h=>wpAny_pyIter_tupleiter st h
theorem mK{w:J5}(it:J4)(lo:Int)(n:Nat):Turn P w K tg (Itr lo n) [it] it (λi h=>IsRangeIter h it (lo+(i:Nat)*1) ((n:Int)-(i:Nat)) 1) where
 mem:=by simp
 obj:=λi h st b hb=>by
  have e:b=it:=‹hb›
  subst e
  exact⟨_,st,λv z=>by have z':Data.fields _=Data.cell v:=z;cases z'⟩
 keep:=λi h h' st k=>k it Ξ _ st
 item:=by
  intro X hP hw hK hc i J0 s σ H E I hf st Z;subst hP hw hK;have⟨f0,U,f2,f3,f4,Y⟩:=hf it Ξ;have W:=Walks.range (prog:=X.prog) (w:=X.w) (I.ok.hd hc) it lo 1 n;refine W.item i s _ _ Z st λv h' tk hv O kk=>?_
  have⟨t,rfl⟩:=hv;have I1:Inv X J0 σ H {s with heap:=h',toks:=tk}:=I.turned (λb o hb e=>kk b o ‹hb› e) f0 U f3 f4 Y;refine⟨_,rfl,rQ (s:={s with heap:=h',toks:=tk}) (n:="range_iterator") O rfl rfl Ω ⟨.int (lo+i),H,I1,⟨t,?_⟩,⟨rfl,rfl⟩,O,λb hb=>(hf b hb).1⟩⟩;rw[Int.mul_one]
 done:=by intro X hP hw hK hc i J0 s σ H E I hf st Z;subst hP hw hK;have⟨f0,U,f2,f3,f4,Y⟩:=hf it Ξ;exact wpAny_pyNext_range_end (I.ok.hd hc) st (by have:n<=i:=Z;lia) λh' eb=>⟨rfl,I.turned (t':=s.toks) (λb o hb e=>eb b o hb e) f0 U f3 f4 Y⟩
 self:=λ_ _ _ _ _ st h=>wpAny_pyIter_rangeiter st h
variable{l:J8}{tl:TE}{fp:η J4}
section
variable{X:Cx}{tg:J8}
def Dh(K:xA9)(tl:TE):TI:=λσ H R=>tl σ H λx H1=>∃a,x=.ref a/\(∃xs,SqL K H1 a xs)/\R (Itl K a) H1
def iTup(K:xA9)(tl:TE):TI:=λσ H R=>tl σ H λx H1=>∃a,x=.ref a/\(∃xs,SqT K H1 a xs)/\R (Itt K a) H1
theorem wn(hl:PE X l tl):PI X tg l (Dh X.K tl):=by
 intro J0 s σ H R I h;refine thn (hl J0 s σ H _ I h) λv s1 O=>?_
 have⟨x,H1,U,W,q1⟩:=O;have⟨a,e,⟨xs,Y⟩,q⟩:=q1;subst e;cases W;have⟨J3,Z,p,hz⟩:=U.list Y;refine wpAny_pyIter_list p.isList ?_;refine⟨s1.heap.objs.size,[s1.heap.objs.size],_,_,H1,rfl,U.kept (t':=s1.toks) λb o e=>gP _ e,pZ a _,⟨_,qc0 _ rfl,rfl,rfl⟩,λb hb=>?_,q⟩;have e:b=s1.heap.objs.size:=‹hb›
 subst e;exact U.fpOk (nL _) (U.hok.fresh (nL _))
theorem Ae(hl:PE X l tl):PI X tg l (iTup X.K tl):=by
 intro J0 s σ H R I h;refine thn (hl J0 s σ H _ I h) λv s1 O=>?_
 have⟨x,H1,U,W,q1⟩:=O;have⟨a,e,⟨xs,Y⟩,q⟩:=q1;subst e;cases W;have⟨J3,Z,p,hz⟩:=U.tuple Y;refine qr6 (show s1.heap.IsTuple a J3.toArray from p) ?_;refine⟨s1.heap.objs.size,[s1.heap.objs.size],_,_,H1,rfl,U.kept (t':=s1.toks) λb o e=>gP _ e,mJ a _,⟨_,qc0 _ rfl,rfl,rfl⟩,λb hb=>?_,q⟩;have e:b=s1.heap.objs.size:=‹hb›
 subst e;exact U.fpOk (nL _) (U.hok.fresh (nL _))
theorem rR{s:qa8}{R:It->Hp->Prop}{E:Value->qa8->Prop}{lo hi:Int}{t u v:Tok}{U:Nat}(I:Inv X J0 σ H s)(h1:-(2^62)<=lo)(h2:lo<2^62)(Y:-(2^62)<=hi)(h4:hi<2^62)
 (q:R (Itr lo (hi-lo).toNat) H):wpAny (model X.prog X.w) X.A (pyIter (.ref s.heap.objs.size)) (PIE X J0 σ tg R) E {s with heap:=s.heap.push {cls:=.type "range",data:=.fields #[.int lo t,.int hi u,.int 1 v]},toks:=U}:=by
 refine wpAny_pyIter_range (IsRange.new ..) (small_one h1 h2 Y h4) ?_;have O:Inv X J0 σ H {s with heap:=s.heap.push {cls:=.type "range",data:=.fields #[.int lo t,.int hi u,.int 1 v]},toks:=U}:=I.kept λb o e=>gP _ e
 refine⟨(s.heap.push {cls:=.type "range",data:=.fields #[.int lo t,.int hi u,.int 1 v]}).objs.size,[(s.heap.push {cls:=.type "range",data:=.fields #[.int lo t,.int hi u,.int 1 v]}).objs.size],_,_,H,rfl,O.kept (t':=U) λb o e=>gP _ e,mK _ lo (hi-lo).toNat,?_,λb hb=>?_,q⟩
 .have W:lo+((0:Nat):Int)*1=lo:=by simp
  have e2:(((hi-lo).toNat:Nat):Int)-((0:Nat):Int)=qj2.Range.rangeSize lo hi 1:=by rw[rangeSize_one];split<;>lia
  show IsRangeIter _ _ (lo+((0:Nat):Int)*1) ((((hi-lo).toNat:Nat):Int)-((0:Nat):Int)) 1;rw[W,e2];exact qc0 _ rfl
 .have e:b=(s.heap.push {cls:=.type "range",data:=.fields #[.int lo t,.int hi u,.int 1 v]}).objs.size:=‹hb›
  subst e;exact O.fpOk (nL _) (O.hok.fresh (nL _))
def yN(ta:TA):TI:=λσ H R=>ta σ H λvs H1=>∃j:Int,vs=[.int j]/\-(2^62)<=j/\j<2^62/\R (Itr 0 j.toNat) H1
theorem p4{a:J8}{ta:TA}{p:Pos}(Z:Gl X "range")(hm:X.mg "range"=ψ)(U:PABq X [a] ta)(hs:qb3 [a] X.env=[(ξ,eval a X.env)]:=by rfl):PI X tg (.Call (.Name "range" p) [a] [] pos) (yN ta):=by
 intro J0 s σ H R I h;refine Call_ (gV I Z hm boot_range (qo1 (thn (U pos J0 s σ H _ I h) λus s1 O=>?_) hs rfl));have⟨vs,H1,I1,W,q1⟩:=O;have⟨j,e,q1,q2,q⟩:=q1;subst e;cases W with
 |cons r Y=>cases Y;have⟨t,rfl⟩:=r;exact call_range_1 (rR I1 Θ Θ q1 q2 ‹q›)
def tFor(wi:TI)(g:TG)(tb:TS):TS:=λD σ H=>wi σ H λJ H1=>∃W:Nat->Nat->St->Hp->Prop,(∃m,W 0 m σ H1)/\∀i m σ H,W i m σ H→ (J.stop i H/\D.nx σ H)\/(J.go i H/\∃N:St->Hp->Prop,(∀O H',N O H'->∃Y,Y<m/\W (i+1) Y O H')/\∀x H',J.yld i H x H'->g x σ H' λU H2=>tb {D with nx:=N,ct:=N,bk:=D.nx} U H2)
noncomputable def fq(fp:η J4)(h:Heap):η (J4×Obj):=fp.filterMap λb=>(h.get? b).map λo=>(b,o)
theorem ci{h:Heap}{b:J4}{o:Obj}(hb:b∈fp)(e:h.get? b=ς o):(b,o)∈fq fp h:=qv9.mpr ⟨b,hb,by rw[e];rfl⟩
theorem p5{h:Heap}{p:J4×Obj}(hp:p∈fq fp h):p.1∈fp/\h.get? p.1=ς p.2:=by
 have⟨b,hb,e⟩:=qv9.mp hp;cases q:h.get? b with
 |none=>rw[q]at e;cases e
 |some o=>rw[q]at e;have O:(b,o)=p:=qd5 e;subst O;exact⟨hb,q⟩
theorem Inv.pinned{s:qa8}(I:Inv X J0 σ H s)(hf:∀b∈fp,dL X J0 H b)(W:∀b∈fp,∃o,s.heap.get? b=ς o/\∀v,o.data≠.cell v):Inv X (J0++fq fp s.heap) σ H s:=
 I.pins_of λp hp=>(qg9.mp hp).elim (λz=>I.pin p (qe2 _ z)) λz=>by
  have⟨hb,e⟩:=p5 z;have⟨f0,U,Y,_⟩:=hf p.1 hb;have⟨o,O,d⟩:=W p.1 hb;rw[e]at O;cases O
  exact⟨e,f0,U,Y,d⟩
theorem Inv.unpinned{pl:η (J4×Obj)}{s:qa8}(I:Inv X (J0++pl) σ H s):Inv X J0 σ H s:=I.pins_of λp hp=>I.pin p (qe2 _ (List.mem_append_left _ hp))
omit x in
theorem Af{iter:J8}{wi:TI}{g:TG}(hp:zb1 (model X.prog X.w) X.A X.env X.xe)(hc:X.calm=θ)(hi:PI X tg iter wi)(hg:PG X tg g)(hb:PSs X body tb)
 (hs:∀x,qh4 iter X.env x=pure x:=by intro _;rfl):PS X (.For tg iter body [] pos) (tFor wi g tb):=by
 intro J0 s σ H D I h;refine wpAny_For (thn (hi J0 s σ H _ I h) λv s1 h1=>thn h1 λitv s2 h2=>?_) hs;have⟨it,fp,tn,J,H2,e,I2,T,st2,f2,W,⟨m0,w0⟩,turn⟩:=h2;subst e
 -- what stays θ of the iterator's objects through the loop
 have stat:∀{H':Hp},(∀b∈fp,H' b=ψ)->∀b∈fp,dL X J0 H' b:=λhn b hb=>⟨hn b hb,(f2 b hb).2⟩
 refine codeAny_forLoop_any (λn s'=>∃i σ' H',Inv X J0 σ' H' s'/\tn i s'.heap/\(∀b∈fp,H' b=ψ)/\W i n σ' H') ?_ m0 ⟨0,σ,H2,I2,st2,λb hb=>(f2 b hb).1,w0⟩;rintro n s3 ⟨i,Z,H3,I3,st3,fr3,w3⟩;rcases turn i n Z H3 w3 with ⟨stop,qn⟩|⟨go,N,hN,step⟩
 .refine qm1 hp (thn (T.done X rfl rfl rfl hc i J0 s3 Z H3 X.xe I3 (stat fr3) st3 stop) λr s4 hq39=>?_);have⟨hr,I4⟩:=hq39;subst hr;exact zb0 ⟨Z,H3,I4,qn⟩
 .refine qm1 hp (thn (T.item X rfl rfl rfl hc i J0 s3 Z H3 X.xe I3 (stat fr3) st3 go) λr s4 ⟨u,hr,h4⟩=>?_);subst hr;refine qm1 hp (thn h4 λ_ s5 hq41=>?_);have⟨x,H5,I5,r5,y5,st5,fr5⟩:=hq41;have I5':=I5.pinned (stat fr5) (T.obj _ _ st5);refine qm1 hp (thn (hg _ s5 Z H5 x u _ I5' r5 (step x H5 y5)) λ_ s6 hq42=>?_);have⟨σ6,H6,I6,q6⟩:=hq42;refine qm1 hp (thn (hb _ s6 σ6 H6 _ I6 q6) λf s7 q7=>?_)
  have Y:∀{O:St}{U:Hp},Inv X (J0++fq fp s5.heap) O U s7->N O U->∃m,m<n/\∃i σ' H',Inv X J0 σ' H' s7/\tn i s7.heap/\(∀b∈fp,H' b=ψ)/\W i m σ' H':=λ{O U} I7 n7=>by have⟨m',hm,w7⟩:=hN O U n7;refine⟨m',hm,i+1,O,U,I7.unpinned,T.keep _ _ _ st5 λb hb o e=>(I7.pin (b,o) (qe2 _ (qe2 _ (ci hb e)))).1,λb hb=>?_,w7⟩;have⟨o,e,d⟩:=T.obj _ _ st5 b hb;exact(I7.pin (b,o) (qe2 _ (qe2 _ (ci hb e)))).2.1
  cases f with
  |next=>have⟨O,U,I7,n7⟩:=q7;exact Y I7 n7
  |cont=>have⟨O,U,I7,n7⟩:=q7;exact Y I7 n7
  |brk=>have⟨O,U,I7,q7⟩:=q7;exact⟨O,U,I7.unpinned,q7⟩
  |ret v=>have⟨x7,O,U,I7,r7,q7⟩:=q7;exact⟨x7,O,U,I7.unpinned,r7,q7⟩
end
abbrev R2:=V->V->Hp->VK->Prop
def OpR(X:Cx)(f:Value->Value->Sem Value)(r:R2):Prop:=
 ∀(J0:η (J4×Obj))(s:qa8)(σ:St)(H:Hp)(x y:V)(v u:Value)(Q:VK),Inv X J0 σ H s->RelV x v->RelV y u->r x y H Q→
  wpAny (model X.prog X.w) X.A (f v u) (EP X J0 σ Q) X.xe s
def UnR(X:Cx)(f:Value->Sem Value)(r:V->Hp->VK->Prop):Prop:=
 ∀(J0:η (J4×Obj))(s:qa8)(σ:St)(H:Hp)(x:V)(v:Value)(Q:VK),Inv X J0 σ H s->RelV x v->r x H Q→
  wpAny (model X.prog X.w) X.A (f v) (EP X J0 σ Q) X.xe s
def bR(X:Cx)(f:Value)(r:η V->Hp->VK->Prop):Prop:=
 ∀(J0:η (J4×Obj))(s:qa8)(σ:St)(H:Hp)(xs:η V)(us:η Value)(Q:VK),Inv X J0 σ H s->Vals xs us->r xs H Q→
  wpAny (model X.prog X.w) X.A (call f us) (EP X J0 σ Q) X.xe s
def TruR(X:Cx)(r:V->Hp->(Bool->Hp->Prop)->Prop):Prop:=
 ∀(J0:η (J4×Obj))(s:qa8)(σ:St)(H:Hp)(x:V)(v:Value)(Q:Bool->Hp->Prop),Inv X J0 σ H s->RelV x v->r x H Q→
  wpAny (model X.prog X.w) X.A (truthy v) (TP X J0 σ Q) X.xe s
def tOp(r:R2)(ta tb:TE):TE:=λσ H Q=>ta σ H λx H1=>tb σ H1 λy H2=>r x y H2 Q
def tUn(r:V->Hp->VK->Prop)(ta:TE):TE:=λσ H Q=>ta σ H λx H1=>r x H1 Q
def gW(C:Int->Int->Prop)(g:Int->Int->V):R2:=λx y H Q=>∃i j,x=.int i/\y=.int j/\C i j/\Q (g i j) H
def rI0(g:Int->Int->V):R2:=λx y H Q=>∃i j,x=.int i/\y=.int j/\Q (g i j) H
def rU(g:Int->V):V->Hp->VK->Prop:=λx H Q=>∃i,x=.int i/\Q (g i) H
variable{r:R2}
section
variable{X:Cx}{a b c:J8}{ta tb tc:TE}{pos:Pos}
theorem Ag(ha:PE X a ta)(hb:PE X b tb){s:qa8}{R:V->V->Hp->Prop}(I:Inv X J0 σ H s)
 (h:ta σ H λx H1=>tb σ H1 λy H2=>R x y H2) {f:Value->Value->Sem Value}
 (hf:∀v u Z x y H2,Inv X J0 σ H2 Z->RelV x v->RelV y u->R x y H2->wpAny (model X.prog X.w) X.A (f v u) Q X.xe Z) :
  wpAny (model X.prog X.w) X.A (eval a X.env) (λv U=>wpAny (model X.prog X.w) X.A (eval b X.env) (λu O=>wpAny (model X.prog X.w) X.A (f v u) Q X.xe O) X.xe U) X.xe s:=by
 refine thn (ha J0 s σ H _ I h) λv s1 Y=>?_
 have⟨x,H1,I1,r1,q1⟩:=Y;refine thn (hb J0 s1 σ H1 _ I1 q1) λu Z W=>?_
 have⟨y,H2,I2,r2,q2⟩:=W;exact hf v u Z x y H2 I2 r1 r2 q2
theorem Di{op:qp3}(Z:OpR X (qh7 op) r)(O:PE X a ta)(hb:PE X b tb):PE X (.BinOp a op b pos) (tOp r ta tb):=by intro J0 s σ H Q I h;exact wpAny_BinOp (Ag O hb I h λv u s2 x y H2 W Y U q=>Z J0 s2 σ H2 x y v u Q W Y U q)
theorem Dj{op:UnaryOp}{r:V->Hp->VK->Prop}(Z:UnR X (unaryOp op) r)(U:PE X a ta):PE X (.UnaryOp op a pos) (tUn r ta):=by intro J0 s σ H Q I h;exact UnaryOp_ (thn (U J0 s σ H _ I h) λv s1 O=>by have⟨x,H1,Y,W,q1⟩:=O;exact Z J0 s1 σ H1 x v Q Y W q1)
theorem opI {f:Value->Value->Sem Value} {C:Int->Int->Prop} {g:Int->Int->Int}
  (O:∀(i j:Int)(t u:Tok)(s:qa8)(Q E:Value->qa8->Prop),C i j->Q (.int (g i j) s.toks) {s with toks:=s.toks+1}->wpAny (model X.prog X.w) X.A (f (.int i t) (.int j u)) Q E s) :
  OpR X f (gW C λi j=>.int (g i j)):=by
 intro J0 s σ H x y v u Q I W U h;have⟨i,j,rfl,rfl,hc,q⟩:=h;have⟨t,rfl⟩:=W;have⟨t',rfl⟩:=U;exact O i j t t' s _ _ hc ⟨.int (g i j),H,I.tok _,⟨_,rfl⟩,q⟩
theorem rS {f:Value->Value->Sem Value} {g:Int->Int->Int}
  (O:∀(i j:Int)(t u:Tok)(s:qa8)(Q E:Value->qa8->Prop),Q (.int (g i j) s.toks) {s with toks:=s.toks+1}->wpAny (model X.prog X.w) X.A (f (.int i t) (.int j u)) Q E s) :
  OpR X f (rI0 λi j=>.int (g i j)):=by
 intro J0 s σ H x y v u Q I W U h;have⟨i,j,rfl,rfl,q⟩:=h;have⟨t,rfl⟩:=W;have⟨t',rfl⟩:=U;exact O i j t t' s _ _ ⟨.int (g i j),H,I.tok _,⟨_,rfl⟩,q⟩
theorem opB0 {f:Value->Value->Sem Value} {g:Int->Int->Bool}
  (O:∀(i j:Int)(t u:Tok)(s:qa8)(Q E:Value->qa8->Prop),Q (.bool (g i j)) s->wpAny (model X.prog X.w) X.A (f (.int i t) (.int j u)) Q E s) :
  OpR X f (rI0 λi j=>.bl (g i j)):=by
 intro J0 s σ H x y v u Q I W U h;have⟨i,j,rfl,rfl,q⟩:=h;have⟨t,rfl⟩:=W;have⟨t',rfl⟩:=U;exact O i j t t' s _ _ ⟨.bl (g i j),H,I,rfl,q⟩
def Ah(i j:Int):Prop:=0<=j/\j<=1000000/\i.natAbs<2^64
def CMul(i j:Int):Prop:=(-(2^64)<i/\i<2^64)\/(-(2^64)<j/\j<2^64)
theorem CMul.ok{i j:Int}(h:CMul i j):IntMulOk i j:=by
 rcases h with ⟨h1,h2⟩|⟨h1,h2⟩
 .exact .of_left (intBits_le_64 h1 h2)
 .exact .of_right (intBits_le_64 h1 h2)
theorem mL(k:Nat):(0:Int)<=2^k:=by rw[two_pow_cast];exact Int.natCast_nonneg _
theorem Ai:OpR X (qh7 .Add) (rI0 λi j=>.int (i+j)):=rS λ_ _ _ _ _ _ _ q=>add_int q
theorem Aj:OpR X (qh7 .Sub) (rI0 λi j=>.int (i-j)):=rS λ_ _ _ _ _ _ _ q=>sub_int q
theorem Ak:OpR X (qh7 .Mult) (gW CMul λi j=>.int (i*j)):=opI λ_ _ _ _ _ _ _ hc q=>mul_int q hc.ok
theorem Al:OpR X (qh7 .Mod) (gW (λ_ j=>0<j) λi j=>.int (i%j)):=opI λi j _ _ _ _ _ hc q=>by have h1:(0:Int)<j:=hc;exact mod_int' Θ (by rw[Int.fmod_eq_emod_of_nonneg i Θ];exact q)
theorem Am:OpR X (qh7 .Pow) (gW Ah λi j=>.int (i^j.toNat)):=opI λ_ _ _ _ _ _ _ hc q=>pow_int_small hc.1 hc.2.1 hc.2.2 q
theorem Ao:OpR X (qh7 .RShift) (gW (λ_ j=>0<=j) λi j=>.int (i/2^j.toNat)):=opI λi j _ _ _ _ _ hc q=>rshift_int hc (by rw[qv6 i (mL _)];exact q)
theorem Ap:OpR X (qh7 .BitAnd) (rI0 λi j=>.int (qw7 i j)):=rS λ_ _ _ _ _ _ _ q=>and_int q
theorem Dk:OpR X (qh7 .BitOr) (rI0 λi j=>.int (qj2.bitOr i j)):=rS λ_ _ _ _ _ _ _ q=>or_int q
theorem Aq:OpR X (qh7 .BitXor) (rI0 λi j=>.int (qj2.bitXor i j)):=rS λ_ _ _ _ _ _ _ q=>xor_int q
theorem unI {f:Value->Sem Value} {g:Int->Int}
  (O:∀(i:Int)(t:Tok)(s:qa8)(Q E:Value->qa8->Prop),Q (.int (g i) s.toks) {s with toks:=s.toks+1}->wpAny (model X.prog X.w) X.A (f (.int i t)) Q E s) :
  UnR X f (rU λi=>.int (g i)):=by
 intro J0 s σ H x v Q I U h;have⟨i,rfl,q⟩:=h;have⟨t,rfl⟩:=U;exact O i t s _ _ ⟨.int (g i),H,I.tok _,⟨_,rfl⟩,q⟩
theorem Ar:UnR X (unaryOp .USub) (rU λi=>.int (-i)):=unI λ_ _ _ _ _ q=>neg_int q
end
noncomputable def As:V->V->Bool
 |.non,.non=>θ|.non,.int _=>θ|.int _,.non=>θ|.non,.bl _=>θ|.bl _,.non=>θ|.non,.str _=>θ|.str _,.non=>θ
 |.int _,.int _=>θ|.bl _,.bl _=>θ|.str _,.str _=>θ|.byt _,.byt _=>θ
 |.int _,.str _=>θ|.str _,.int _=>θ|.bl _,.str _=>θ|.str _,.bl _=>θ
 |_,_=>ξ
def rEq:R2:=λx y H Q=>As x y=θ/\Q (.bl (decide (x=y))) H
def rNe:R2:=λx y H Q=>As x y=θ/\Q (.bl (!decide (x=y))) H
theorem oe{i j:Int}:decide (V.int i=V.int j)=(i==j):=by rw[qr7];simp
theorem rT{i j:Bool}:decide (V.bl i=V.bl j)=(i==j):=by rw[qr7];simp
theorem oj{i j:Str}:decide (V.str i=V.str j)=(i==j):=by rw[qr7];simp
theorem om{i j:Array UInt8}:decide (V.byt i=V.byt j)=(i.toList==j.toList):=by rw[qr7];cases i;cases j;simp
section
variable{X:Cx}{a b c:J8}{ta tb tc:TE}{pos:Pos}
theorem aq{s:qa8}{Q:VK}{k k':Bool}(I:Inv X J0 σ H s)(q:Q (.bl k) H)(e:k=k'):EP X J0 σ Q (.bool k') s:=by subst e;exact⟨.bl k,H,I,rfl,q⟩
theorem Dl:OpR X (qe7 .Eq) rEq:=by
 intro J0 s σ H x y v u Q I U O h;have⟨hs,q⟩:=h;cases x with
 |non=>
  cases U;cases y with
  |non=>cases O;exact PySem.EqNone.eq_none_none (aq I q Ξ)
  |bl j=>cases O;exact PySem.EqNone.eq_none_bool (aq I q Ξ)
  |int j=>have⟨t',rfl⟩:=O;exact PySem.EqNone.eq_none_int (aq I q Ξ)
  |str j=>have⟨t',rfl⟩:=O;exact PySem.EqNone.eq_none_str (aq I q Ξ)
  |_=>exact absurd (show ξ=θ from hs) qb6
 |bl i=>
  cases U;cases y with
  |non=>cases O;exact PySem.EqNone.eq_bool_none (aq I q Ξ)
  |bl j=>cases O;exact eq_bool (aq I q rT)
  |str j=>have⟨t',rfl⟩:=O;exact PySem.EqMixed.eq_bool_str (aq I q Ξ)
  |_=>exact absurd (show ξ=θ from hs) qb6
 |int i=>
  have⟨t,rfl⟩:=U;cases y with
  |non=>cases O;exact PySem.EqNone.eq_int_none (aq I q Ξ)
  |int j=>have⟨t',rfl⟩:=O;exact eq_int (aq I q oe)
  |str j=>have⟨t',rfl⟩:=O;exact PySem.EqMixed.eq_int_str (aq I q Ξ)
  |_=>exact absurd (show ξ=θ from hs) qb6
 |str i=>
  have⟨t,rfl⟩:=U;cases y with
  |non=>cases O;exact PySem.EqNone.eq_str_none (aq I q Ξ)
  |bl j=>cases O;exact PySem.EqMixed.eq_str_bool (aq I q Ξ)
  |int j=>have⟨t',rfl⟩:=O;exact PySem.EqMixed.eq_str_int (aq I q Ξ)
  |str j=>have⟨t',rfl⟩:=O;exact eq_str (aq I q oj)
  |_=>exact absurd (show ξ=θ from hs) qb6
 |byt i=>
  have⟨t,rfl⟩:=U;cases y with
  |byt j=>have⟨t',rfl⟩:=O;exact PySem.W.eq_bytes (aq I q om)
  |_=>exact absurd (show ξ=θ from hs) qb6
 |_=>cases y<;>exact absurd (show ξ=θ from hs) qb6
theorem Dm:OpR X (qe7 .NotEq) rNe:=by
 intro J0 s σ H x y v u Q I U O h;have⟨hs,q⟩:=h;cases x with
 |non=>
  cases U;cases y with
  |non=>cases O;exact PySem.EqNone.ne_none_none (aq I q Ξ)
  |bl j=>cases O;exact PySem.EqNone.ne_none_bool (aq I q Ξ)
  |int j=>have⟨t',rfl⟩:=O;exact PySem.EqNone.ne_none_int (aq I q Ξ)
  |str j=>have⟨t',rfl⟩:=O;exact PySem.EqNone.ne_none_str (aq I q Ξ)
  |_=>exact absurd (show ξ=θ from hs) qb6
 |bl i=>
  cases U;cases y with
  |non=>cases O;exact PySem.EqNone.ne_bool_none (aq I q Ξ)
  |bl j=>cases O;exact ne_bool (aq I q (congrArg not rT))
  |str j=>have⟨t',rfl⟩:=O;exact PySem.EqMixed.ne_bool_str (aq I q Ξ)
  |_=>exact absurd (show ξ=θ from hs) qb6
 |int i=>
  have⟨t,rfl⟩:=U;cases y with
  |non=>cases O;exact PySem.EqNone.ne_int_none (aq I q Ξ)
  |int j=>have⟨t',rfl⟩:=O;exact ne_int (aq I q (congrArg not oe))
  |str j=>have⟨t',rfl⟩:=O;exact PySem.EqMixed.ne_int_str (aq I q Ξ)
  |_=>exact absurd (show ξ=θ from hs) qb6
 |str i=>
  have⟨t,rfl⟩:=U;cases y with
  |non=>cases O;exact PySem.EqNone.ne_str_none (aq I q Ξ)
  |bl j=>cases O;exact PySem.EqMixed.ne_str_bool (aq I q Ξ)
  |int j=>have⟨t',rfl⟩:=O;exact PySem.EqMixed.ne_str_int (aq I q Ξ)
  |str j=>have⟨t',rfl⟩:=O;exact ne_str (aq I q (congrArg not oj))
  |_=>exact absurd (show ξ=θ from hs) qb6
 |byt i=>
  have⟨t,rfl⟩:=U;cases y with
  |byt j=>have⟨t',rfl⟩:=O;exact PySem.W.ne_bytes (aq I q (congrArg not om))
  |_=>exact absurd (show ξ=θ from hs) qb6
 |_=>cases y<;>exact absurd (show ξ=θ from hs) qb6
theorem Dn:OpR X (qe7 .Lt) (rI0 λi j=>.bl (decide (i<j))):=opB0 λ_ _ _ _ _ _ _ q=>lt_int q
theorem Do:OpR X (qe7 .Gt) (rI0 λi j=>.bl (decide (j<i))):=opB0 λ_ _ _ _ _ _ _ q=>gt_int q
theorem p6:OpR X (qe7 .In) (λx y H Q=>∃i j,x=.str i/\y=.str j/\Q (.bl (!(qr8 j i 0 j.length 1).isEmpty)) H):=by intro J0 s σ H x y v u Q I U O h;have⟨i,j,rfl,rfl,q⟩:=h;have⟨t,rfl⟩:=U;have⟨t',rfl⟩:=O;exact in_str (aq I q rfl)
theorem Au:OpR X (qe7 .Is) (λx y H Q=>y=.non/\Q (.bl (decide (x=.non))) H):=by
 intro J0 s σ H x y v u Q I O U h;have⟨rfl,q⟩:=h;cases U;refine is_none_gen (aq I q ?_)
 cases x<;>first
  |(cases O;rfl)
  |(have⟨t,rfl⟩:=O;rfl)
theorem wo:OpR X (qe7 .IsNot) (λx y H Q=>y=.non/\Q (.bl (!decide (x=.non))) H):=by
 intro J0 s σ H x y v u Q I O U h;have⟨rfl,q⟩:=h;cases U;refine isnot_none_gen (aq I q ?_)
 cases x<;>first
  |(cases O;rfl)
  |(have⟨t,rfl⟩:=O;rfl)
theorem OpR.or{f:Value->Value->Sem Value}{O:R2}(h:OpR X f r)(h':OpR X f O):OpR X f (λx y H Q=>r x y H Q\/O x y H Q):=by
 intro J0 s σ H x y v u Q I W U q;rcases q with q|q
 .exact h J0 s σ H x y v u Q I W U q
 .exact h' J0 s σ H x y v u Q I W U q
theorem wp{op:CmpOp}(Z:OpR X (qe7 op) r)(O:PE X a ta)(hb:PE X b tb)(hm:qy8 op b=ξ):PE X (.Compare a [op] [b] pos) (tOp r ta tb):=by intro J0 s σ H Q I h;exact wpAny_Compare1 (Ag O hb I h λv u s2 x y H2 W Y U q=>Z J0 s2 σ H2 x y v u Q W Y U q) hm
def Dp(t:TE):TT:=λσ H Q=>t σ H λx H'=>∃k,x=.bl k/\Q k H'
theorem wq{op:CmpOp}(ho:OpR X (qe7 op) r)(ha:PE X a ta)(hb:PE X b tb)(hm:qy8 op b=ξ):PT X (.Compare a [op] [b] pos) (Dp (tOp r ta tb)):=by
 intro J0 s σ H Q I h
 refine wpAny_isTrue_Compare1 (thn (ha J0 s σ H _ I h) λv s1 ⟨x,H1,U,r1,q1⟩=>thn (hb J0 s1 σ H1 _ U q1) λu Z ⟨y,H2,W,r2,q2⟩=>thn (ho J0 Z σ H2 x y v u _ W r1 r2 q2) λc s3 O=>?_) hm
 have⟨z,H3,I3,Y,k,e,q3⟩:=O;subst e;cases Y;exact qs7 ⟨H3,I3,q3⟩
def Av(K:xA9)(x:V)(H:Hp)(k:Bool):Prop:=
 match x with
 |.non=>k=ξ
 |.bl b=>k=b
 |.int i=>k=(i != 0)
 |.str y=>y.length<=qa5/\k=((y.length:Int) != 0)
 |.byt y=>y.size<=qa5/\k=((y.size:Int) != 0)
 |.ref p=>(∃xs,SqL K H p xs/\k=!xs.isEmpty)\/(∃xs,SqT K H p xs/\k=!xs.isEmpty)\/∃J1,H p=ς (.dK J1)/\k=!J1.isEmpty
 |_=>False
theorem mM{κ:Type}{J1:η (κ×V)}{vs:η (κ×Value)}(r:KV J1 vs):(!vs.isEmpty)=!J1.isEmpty:=by cases r<;>rfl
theorem gY{J3:η Value}(r:Vals xs J3):(!J3.toArray.isEmpty)=!xs.isEmpty:=by cases r<;>simp
theorem fw:(qa5:Nat)<2^63:=by rw[qb7];decide
theorem Aw:TruR X (λx H Q=>∃k,Av X.K x H k/\Q k H):=by
 intro J0 s σ H x v Q I rx h;have⟨k,e,q⟩:=h;have hl:=fw;have hs:qa5=16777216:=qb7;cases x with
 |non=>cases rx;have e':k=ξ:=e;subst e';exact truthy_none ⟨H,I,q⟩
 |bl b=>cases rx;have e':k=b:=e;subst e';exact qs7 ⟨H,I,q⟩
 |int i=>have⟨t,rfl⟩:=rx;have e':k=(i != 0):=e;subst e';exact PySem.P.truthy_int ⟨H,I,q⟩
 |str y=>have⟨t,rfl⟩:=rx;obtain⟨hy,e'⟩:y.length<=qa5/\k=((y.length:Int) != 0):=e;subst e';exact PySem.P.truthy_str Θ ⟨H,I.tok _,q⟩
 |byt y=>have⟨t,rfl⟩:=rx;obtain⟨hy,e'⟩:y.size<=qa5/\k=((y.size:Int) != 0):=e;subst e';exact PySem.W.truthy_bytes Θ ⟨H,I.tok _,q⟩
 |ref p=>
  cases rx;have e':(∃xs,SqL X.K H p xs/\k=!xs.isEmpty)\/(∃xs,SqT X.K H p xs/\k=!xs.isEmpty)\/∃J1,H p=ς (.dK J1)/\k=!J1.isEmpty:=e;rcases e' with ⟨xs,hx,e'⟩|⟨xs,hx,e'⟩|⟨J1,hx,e'⟩
  .subst e';have⟨J3,r,pl,hz⟩:=I.list hx;have hlen:=r.length;exact wpAny_truthy_list pl.isList (by rwa[qb5];lia) ⟨H,I.tok _,by rw[gY r];exact q⟩
  .subst e';have⟨J3,r,pl,hz⟩:=I.tuple hx;have hlen:=r.length;exact truthy_tuple pl (by rwa[qb5];lia) ⟨H,I.tok _,by rw[gY r];exact q⟩
  .subst e';obtain⟨hz,hS,vs,r,m⟩:J1.length<=qa5/\(p==qk1)=ξ/\∃vs,KV J1 vs/\s.heap.DictOf (ao X.prog X.w) p vs:=I.hok p _ hx;have hlen:J1.length=vs.length:=Paired.length r;exact wpAny_truthy_dict hS m Θ ⟨H,I.tok _,by rw[mM r];exact q⟩
 |_=>exact(show False from e).elim
theorem rV (W:PE X a ta) (Z:∀ O,isTrue a X.env O=(do let v <- O;qw6 a.pos;qo9 [v] (truthy v))) :
  PT X a (λσ H Q=>ta σ H λx H'=>∃k,Av X.K x H' k/\Q k H'):=by
 intro J0 s σ H Q I h;exact isTrue_plain (thn (W J0 s σ H _ I h) λv s1 U=>by have⟨x,H1,I1,Y,q1⟩:=U;exact Aw J0 s1 σ H1 x v Q I1 Y q1) (Z _)
theorem mN:OpR X (qh7 .Add) (λx y H Q=>∃i j,x=.str i/\y=.str j/\i.length+j.length<=qa5/\Q (.str (i++j)) H):=by intro J0 s σ H x y v u Q I U O h;have⟨i,j,rfl,rfl,hz,q⟩:=h;have⟨t,rfl⟩:=U;have⟨t',rfl⟩:=O;exact add_str (λt' W=>⟨.str (i++j),H,I.tok _,⟨_,rfl⟩,q⟩) hz
theorem gZ{x:V}(r:Vals [x] us):∃u,us=[u]/\RelV x u:=by
 cases r with
 |cons U O=>cases O;exact⟨_,rfl,U⟩
theorem yO{x:V}(r:Vals [x,y] us):∃u w',us=[u,w']/\RelV x u/\RelV y w':=by
 cases r with
 |cons O Y=>
  cases Y with
  |cons U W=>cases W;exact⟨_,_,rfl,O,U⟩
def LenV(K:xA9)(x:V)(H:Hp)(n:Nat):Prop:=
 match x with
 |.str y=>y.length<=qa5/\n=y.length
 |.byt y=>y.size<=qa5/\n=y.size
 |.ref p=>(∃xs,SqL K H p xs/\n=xs.length)\/∃xs,SqT K H p xs/\n=xs.length
 |_=>False
theorem rW:bR X (.builtin "len") (λxs H Q=>∃x n,xs=[x]/\LenV X.K x H n/\Q (.int n) H):=by
 intro J0 s σ H xs us Q I r h;have⟨x,n,rfl,e,q⟩:=h;have⟨u,rfl,rx⟩:=gZ r;have hl:=fw;have hs:qa5=16777216:=qb7;cases x with
 |str y=>have⟨t,rfl⟩:=rx;obtain⟨hy,e'⟩:y.length<=qa5/\n=y.length:=e;subst e';exact len_str Θ ⟨.int _,H,I.tok _,⟨_,rfl⟩,q⟩
 |byt y=>have⟨t,rfl⟩:=rx;obtain⟨hy,e'⟩:y.size<=qa5/\n=y.size:=e;subst e';exact PySem.W.len_bytes Θ ⟨.int _,H,I.tok _,⟨_,rfl⟩,q⟩
 |ref p=>
  cases rx;have e':(∃xs,SqL X.K H p xs/\n=xs.length)\/∃xs,SqT X.K H p xs/\n=xs.length:=e;rcases e' with ⟨xs,hx,e'⟩|⟨xs,hx,e'⟩
  .subst e';have⟨J3,r',pl,hz⟩:=I.list hx;have hlen:=r'.length;exact Calls.call_len_list pl.isList (by rwa[qb5];lia) ⟨.int xs.length,H,I.tok _,⟨_,by rwa[qb5];rw[hlen]⟩,q⟩
  .subst e';have⟨J3,r',pl,hz⟩:=I.tuple hx;have hlen:=r'.length;exact len_tuple pl (by rwa[qb5];lia) ⟨.int xs.length,H,I.tok _,⟨_,by rwa[qb5];rw[hlen]⟩,q⟩
 |_=>exact(show False from e).elim
end
structure ObjM(h:Heap)(x dx C:J4)(mA:Str->Option Value):Prop where
 obj:h.get? x=ς (xG9 C dx)
 ns:h.Ns1 dx mA
 ne:dx≠x
variable{dx:J4}{mA:Str->ζ Value}
omit x in
theorem p7{h:Heap}(n:h.Ns1 dx mA):∃U,h.get? dx=ς U/\∀name,xL9 name U=ς (mA name):=by
 have⟨o,es,ep,ho,Y,Z,_,hm⟩:=n;refine⟨o,ho,λname=>?_⟩;have e:=hm name;unfold nsFind findBy at e;rw[<- Array.find?_toList]at e;unfold xL9;rw[Y];dsimp only;split
 .rename_i y q;rw[q]at e;exact congrArg ς e
 .rename_i q;rw[q]at e
  have a:es.toList.any (·.refKey)=ξ:=by rw[List.any_eq_false];intro y hy;have⟨z,t,O⟩:=Z y (Array.mem_toList_iff.mp hy);simp[DictEntry.refKey,O]
  have a':¬ es.toList.any (·.refKey)=θ:=by rw[a];exact qb6
  rw[if_neg a'];exact congrArg ς e
variable{C:J4}
theorem ObjM.look{h:Heap}{x:J4}(I:ObjM h x dx C mA):∃O,PySem.W.InstAt h x (xG9 C dx) C (ς O)/\∀name,xL9 name O=ς (mA name):=
 let ⟨O,ho,hl⟩:=p7 I.ns
 ⟨O,⟨I.obj,rfl,rfl,ho⟩,hl⟩
variable{pl:Sem Bool}{kw:η (Str×Value)}
section
variable{prog:qe5}{w:J5}{A:ql0}{E:Value->qa8->Prop}{s:qa8}{K:xA9}{x dx C f:J4}{mA:Str->ζ Value}{name:Str}{v:Value}
theorem wt{O:Bool}(X:K.In s.heap)(I:ObjM s.heap x dx C mA)(Z:xJ9 K C name=θ)(hh:xM9 K C=θ)
 (Y:xB9 K (.ref C) name=ς ψ) (hv:mA name=ς v) (U:PySem.W.handedIn v=θ) (h:Q v {s with toks:=s.toks+1}) :
  wpAny (model prog w) A (getAttr (.ref x) name O) Q E s:=by
 have⟨od,J,hl⟩:=I.look;exact PySem.W.get_value X J (xP9 Z).1 (PySem.W.findObj_own hh Y rfl (by rw[hl,hv])) U h
theorem rX{Q:Value×η Value->qa8->Prop}(X:K.In s.heap)(I:ObjM s.heap x dx C mA)(O:xJ9 K C name=θ)
 (hf:xB9 K (.ref C) name=ς (ς (.ref f))) (U:xH9 K (.ref f)=θ) (Y:mA name=ψ) (h:Q (.ref f,[.ref x]) s) :
  wpAny (model prog w) A (qv0 (.ref x) name pl) Q E s:=by
 have⟨Z,J,hl⟩:=I.look;exact PySem.W.method_fn X J (xP9 O).1 (xP9 O).2 hf (beq_iff_eq.mp U) (by show(xL9 name Z).map (·.isSome)=ς ξ;rw[hl,Y];rfl) h
theorem wu {ns:η Str} {Q:Unit->qa8->Prop} (X:K.In s.heap) (I:ObjM s.heap x dx C mA)
  (hs:xB9 K (.ref C) "__setattr__"=ς (ς (.builtin "object.__setattr__"))) (hp:xQ9 K C=θ) (ht:xR9 K C name=ς ψ) (hh:xM9 K C=θ)
  (hw:PySem.Within mA ns) (hsz:ns.length<=qa5)
  (h:∀h',ObjM h' x dx C (λy=>if y=name then ς v else mA y)->qg5 dx s.heap h'->Q () {s with heap:=h',toks:=s.toks+2}) :
  wpAny (model prog w) A (setAttr (.ref x) name v) Q E s:=by
 have⟨od,J,hl⟩:=I.look;refine PySem.W.set_plain X J hs (PySem.W.osa_open (s:={s with toks:=s.toks+1}) (r:=ψ) X J hp ht λb=>?_);have⟨cd,hc,Y⟩:=PySem.W.any_some hh;have hx:s.heap.get? x=ς ⟨.ref C,ς dx,.plain,#[]⟩:=I.obj;refine wB (qa6 (wB (wB (wpAny_loadPart hx (wB (PySem.W.Looks.here (s:={s with toks:=s.toks+1}) (PySem.W.looks_clsIn X hc) ?_))))));rw[Y];refine qa6 (a:=ς dx) (wB (qa6 (wB ?_)));refine wpAny_nsSet1 (s:={s with toks:=s.toks+1}) I.ns λh' U O=>?_
 have⟨oD,esD,epD,hoD,Z,hcD⟩:=U.count (PySem.Within.cons name v hw);refine wB (wpAny_lookBehind hoD (by rw[Z];exact pastItsLine_dict (qd7 hcD (by rw[qc2];lia))) ?_);exact qa6 (h _ ⟨(O.2 _ (qj7 I.ne)).trans I.obj,U,I.ne⟩ O)
theorem rY{R:Result->qa8->Prop}{vs:η Value}(X:K.In s.heap)(U:xS9 K C=θ)
 (hi:xB9 K (.ref C) "__init__"=ς (ς (.ref f))) (hf:PySem.W.typeIn K (.ref f)=ς (.type "function"))
 (h:qv1 (model prog w) (A.under (.builtin "type.__call__" ⟨.ref C::vs,kw⟩)) (.call (.ref f) ⟨.ref (s.heap.objs.size+1)::vs,kw⟩) (PySem.W.InitBack (s.heap.objs.size+1) R)
 {s with heap:=(s.heap.push xF9).push (xG9 C s.heap.objs.size)}) :
  qv1 (model prog w) A (.call (.ref C) ⟨vs,kw⟩) R s:=by
 have⟨Z,g,d,t,Y⟩:=s;exact PySem.W.make_core (PySem.W.makes_of X U) (PySem.W.looks_findIn X hi) (λO=>PySem.W.bind_fn X O hf) (.inl rfl) h
end
noncomputable def bq(f:Str)(v:V):η (Str×V)->η (Str×V)
 |[]=>[(f,v)]
 |(g,x)::r=>if g=f then(g,v)::r else(g,x)::bq f v r
theorem f7(f g:Str)(v:V):∀fs:η (Str×V),(bq f v fs).lookup g=if g=f then ς v else fs.lookup g
 |[]=>by
  show qh3 g [(f,v)]=_;by_cases h:g=f
  .have hb:(g==f)=θ:=beq_iff_eq.mpr h;rwa[qh3,hb,if_pos h]
  .have hb:(g==f)=ξ:=beq_eq_false_iff_ne.mpr h;rwa[qh3,hb,if_neg h]
 |(k,x)::r=>by
  have U:=f7 f g v r;rw[show bq f v ((k,x)::r)=(if k=f then(k,v)::r else(k,x)::bq f v r)from rfl];by_cases O:k=f
  .rw[if_pos O];by_cases h:g=k
   .have hb:(g==k)=θ:=beq_iff_eq.mpr h;rwa[qh3,hb,if_pos (h.trans O)]
   .have hb:(g==k)=ξ:=beq_eq_false_iff_ne.mpr h;rwa[qh3,hb,if_neg (λe:g=f=>h (e.trans O.symm))]
  .rw[if_neg O];by_cases h:g=k
   .have hb:(g==k)=θ:=beq_iff_eq.mpr h;rwa[qh3,hb,if_neg (λe:g=f=>O (h.symm.trans e))]
   .have hb:(g==k)=ξ:=beq_eq_false_iff_ne.mpr h;rwa[qh3,hb];exact U
theorem fC(f:Str)(v:V):∀fs:η (Str×V),f∈(bq f v fs).map (·.1)/\∀g,g∈fs.map (·.1)->g∈(bq f v fs).map (·.1)
 |[]=>⟨by simp[bq],λg h=>by simp at h⟩
 |(k,x)::r=>by
  have⟨U,W⟩:=fC f v r;rw[show bq f v ((k,x)::r)=(if k=f then(k,v)::r else(k,x)::bq f v r)from rfl];by_cases O:k=f
  .rw[if_pos O];subst O;exact⟨Ξ,λg h=>‹h›⟩
  .rw[if_neg O];refine⟨?_,λg h=>?_⟩
   .rw[qa3];exact qe4 _ U
   .rw[qa3]at h ⊢;rcases qb9.mp h with e|e
    .exact qb9.mpr (.inl e)
    .exact qe4 _ (W g e)
theorem f8(f:Str)(v:V):∀fs:η (Str×V),(bq f v fs).length<=fs.length+1
 |[]=>by simp[bq]
 |(k,x)::r=>by
  have U:=f8 f v r;rw[show bq f v ((k,x)::r)=(if k=f then(k,v)::r else(k,x)::bq f v r)from rfl];by_cases O:k=f
  .rw[if_pos O,qc2,qc2];lia
  .rw[if_neg O,qc2,qc2];lia
theorem RelO.some_of{v:V}{o:ζ Value}(r:RelO (ς v) o):∃u,o=ς u/\RelV v u:=by
 cases o with
 |none=>exact(show False from r).elim
 |some u=>exact⟨u,rfl,r⟩
theorem RelO.none_of{o:ζ Value}(r:RelO ψ o):o=ψ:=by
 cases o with
 |none=>rfl
 |some u=>exact(show False from r).elim
theorem p8{v:V}(r:RelV v u):PySem.W.handedIn u=θ:=by
 cases v with
 |non=>cases (show u=qg8 from r);rfl
 |bl b=>cases (show u=qs6 b from r);rfl
 |int i=>have⟨t,e⟩:=(show ∃t,u=zd5 i t from r);cases e;rfl
 |str x=>have⟨t,e⟩:=(show ∃t,u=zd6 x t from r);cases e;rfl
 |byt b=>have⟨t,e⟩:=(show ∃t,u=Value.bytes b t from r);cases e;rfl
 |flt b=>have⟨t,e⟩:=(show ∃t,u=Value.float b t from r);cases e;rfl
 |ref a=>cases (show u=qc3 a from r);rfl
 |ty n=>cases (show u=qo5 n from r);rfl
section
variable{P:qe5}{w:J5}{H H':Hp}{h h':Heap}{a C dx:J4}{fs fs':η (Str×V)}
theorem gu(O:HOk P w H h)(e:H a=ς (.ins C dx fs)):∃mA,ObjM h a dx C mA/\(∀f,RelO (fs.lookup f) (mA f))/\PySem.Within mA (fs.map (·.1))/\fs.length<=1000/\H dx=ς (.own a):=by have⟨d,z,U,ob,mA,n,r,q⟩:=(show ObjOk P w H h a (.ins C dx fs)from O a _ e);exact⟨mA,⟨ob,n,U⟩,r,q,z,d⟩
end
structure Cls(K:xA9)(C:J4):Prop where
 pg:xJ9 K C Str.empty=θ
 hd:xM9 K C=θ
 po:xQ9 K C=θ
 sa:xB9 K (.ref C) "__setattr__"=ς (ς (.builtin "object.__setattr__"))
theorem Cls.get(c:Cls K C)(f:Str):xJ9 K C f=θ:=c.pg
def NoAttr(K:xA9)(C:J4)(f:Str):Prop:=xB9 K (.ref C) f=ς ψ
theorem NoAttr.taker{f:Str}(n:NoAttr K C f):xR9 K C f=ς ψ:=by unfold xR9;rw[show xB9 K (.ref C) f=ς ψ from n];rfl
structure Meth(K:xA9)(C:J4)(m:Str)(f:J4):Prop where
 at_:xB9 K (.ref C) m=ς (ς (.ref f))
 fn:xH9 K (.ref f)=θ
 kp:xD9 K (.ref f)=θ
variable{m:Str}
section
variable{X:Cx}{J0:η (J4×Obj)}{σ:St}{H:Hp}{s:qa8}{a C dx:J4}{fs:η (Str×V)}{f:Str}{v:V}{A:ql0}{E:Value->qa8->Prop}
theorem g6{b:Bool}(I:Inv X J0 σ H s)(e:H a=ς (.ins C dx fs))(c:Cls X.K C)(n:NoAttr X.K C f)(l:fs.lookup f=ς v)
 (h:∀u s',Inv X J0 σ H s'->RelV v u->Q u s'):wpAny (model X.prog X.w) A (getAttr (.ref a) f b) Q E s:=by
 have⟨mA,O,r,_,_,_⟩:=gu I.hok e;have⟨u,W,U⟩:=RelO.some_of (v:=v) (o:=mA f) (by rw[<- l];exact r f);exact wt I.kIn O (c.get f) c.hd n W (p8 U) (h u _ (I.tok _) U)
theorem dM{g:J4}{Q:Value×η Value->qa8->Prop}(I:Inv X J0 σ H s)(e:H a=ς (.ins C dx fs))(c:Cls X.K C)(k:Meth X.K C m g)(l:fs.lookup m=ψ)
 (h:Q (.ref g,[.ref a]) s):wpAny (model X.prog X.w) A (qv0 (.ref a) m pl) Q E s:=by
 have⟨mA,O,r,_,_,_⟩:=gu I.hok e;have U:mA m=ψ:=RelO.none_of (by rw[<- l];exact r m);exact rX I.kIn O (c.get m) k.at_ k.fn U h
theorem g7{Q:Unit->qa8->Prop}(I:Inv X J0 σ H s)(e:H a=ς (.ins C dx fs))(c:Cls X.K C)(n:NoAttr X.K C f)(hl:fs.length<1000)(ry:RelV y u)
 (h:∀s',Inv X J0 σ (upd H a (.ins C dx (bq f y fs))) s'->Q () s'):wpAny (model X.prog X.w) A (setAttr (.ref a) f u) Q E s:=by
 have⟨mA,O,r,wi,_,W⟩:=gu I.hok e;have hz:(fs.map (·.1)).length<=qa5:=by rw[qa2,qb7];lia
 refine wu I.kIn O c.sa c.po n.taker c.hd wi hz λh' U sb=>h _ ?_
 have Z:∃o,h'.get? dx=ς o:=let ⟨o,_,_,e',_⟩:=U.ns;⟨o,e'⟩;refine I.write (x:=a) (e:=dx) (by rw[e];exact qk9) (.inr W) (λb q hb z=>(sb.2 b hb).trans z) Z ?_;refine⟨by rw[ah O.ne];exact W,?_,O.ne,U.obj,_,U.ns,λg=>?_,λg Y=>?_⟩
 .have:=f8 f y fs;lia
 .show RelO ((bq f y fs).lookup g) (if g=f then ς u else mA g);rw[f7];by_cases q:g=f
  .rw[if_pos q,if_pos q];exact ry
  .rw[if_neg q,if_neg q];exact r g
 .by_cases q:g=f
  .rw[q];exact(fC f y fs).1
  .refine(fC f y fs).2 g (wi g λz=>Y ?_);show(if g=f then ς u else mA g)=ψ;rw[if_neg q];exact z
theorem Inv.made (I:Inv X J0 σ H s):Inv X J0 σ (upd (upd H s.heap.objs.size (.own (s.heap.objs.size+1))) (s.heap.objs.size+1) (.ins C s.heap.objs.size []))
  {s with heap:=(s.heap.push xF9).push (xG9 C s.heap.objs.size)}:=by
 have O:(s.heap.push xF9).get? s.heap.objs.size=ς xF9:=qc0 s.heap rfl
 have e2:((s.heap.push xF9).push (xG9 C s.heap.objs.size)).get? (s.heap.objs.size+1)=ς (xG9 C s.heap.objs.size):=by
  have:=qc0 (s.heap.push xF9) (o:=xG9 C s.heap.objs.size) rfl
  rw[qn5]at this;assumption
 have Y:(s.heap.push xF9).Ns s.heap.objs.size (λ_=>ψ):=⟨xF9,#[],_,O,rfl,(λe Z=>absurd Z Ξ),λ_=>rfl⟩;have I1:=I.laid (a:=s.heap.objs.size) (o:=.own (s.heap.objs.size+1)) (h':=s.heap.push xF9) (t':=s.toks) (λb u q=>gP _ q) (nL _) ⟨_,O⟩;refine I1.laid (a:=s.heap.objs.size+1) (o:=.ins C s.heap.objs.size []) (t':=s.toks) (λb u q=>gP _ q) (Nat.le_of_eq (qn5 _ _)) ?_;have U:s.heap.objs.size≠s.heap.objs.size+1:=qc5 (qp4 _);refine⟨by rw[ah U,af],qg4 _,U,e2,λ_=>ψ,(Heap.Ns1.of_empty Y).at λo q=>gP _ q,λ_=>qk9,λy hy=>absurd rfl hy⟩
theorem ww{prog:qe5}{w:J5}{env:Env}{f:Str}{s:qa8}(hb:qh8 e f env (eval e env)=eval e env)
 (h:wpAny (model prog w) A (eval e env) (λo O=>wpAny (model prog w) A (getAttr o f θ) Q E O) E s):wpAny (model prog w) A (eval (.Attribute e f pos) env) Q E s:=
 Attribute_any_ h (by rw[arm_eval_Attribute,hb])
end
def tFld(K:xA9)(ta:TE)(f:Str):TE:=λσ H Q=>ta σ H λx H1=>∃a C dx fs v,x=.ref a/\H1 a=ς (.ins C dx fs)/\Cls K C/\NoAttr K C f/\fs.lookup f=ς v/\Q v H1
def sFld(K:xA9)(ta tv:TE)(f:Str):TS:=λD σ H=>tv σ H λy H1=>ta σ H1 λx H2=>∃a C dx fs,x=.ref a/\H2 a=ς (.ins C dx fs)/\Cls K C/\NoAttr K C f/\fs.length<1000∧D.nx σ (upd H2 a (.ins C dx (bq f y fs)))
def InOp(X:Cx)(op:qp3)(rd:V->V->Hp->VK->Prop):Prop:=∀(J0:η (J4×Obj))(s:qa8)(σ:St)(H:Hp)(x y:V)(u v:Value)(Q:VK),Inv X J0 σ H s->RelV x u->RelV y v->rd x y H Q->wpAny (model X.prog X.w) X.A (inplaceOp op u v) (EP X J0 σ Q) X.xe s
def wx(K:xA9)(ta tv:TE)(rd:V->V->Hp->VK->Prop)(f:Str):TS:=λD σ H=>ta σ H λx H1=>∃a C dx fs v,x=.ref a/\H1 a=ς (.ins C dx fs)/\Cls K C/\NoAttr K C f/\fs.lookup f=ς v∧tv σ H1 λy H2=>rd v y H2 λz U=>∃O fs',U a=ς (.ins C O fs')/\fs'.length<1000/\D.nx σ (upd U a (.ins C O (bq f z fs')))
section
variable{X:Cx}{o e value:J8}{f:Str}{pos pos' tpos:Pos}{ta tv:TE}
theorem Ax(U:PE X e ta)(hb:qh8 e f X.env (eval e X.env)=eval e X.env):PE X (.Attribute e f pos) (tFld X.K ta f):=by intro J0 s σ H Q I h;refine ww hb (thn (U J0 s σ H _ I h) λu s1 O=>?_);have⟨x,H1,W,rx,a,C,dx,fs,v,ex,Z,c,n,l,q⟩:=O;subst ex;obtain rfl:u=qc3 a:=rx;exact g6 W Z c n l λu' s2 Y ru=>⟨v,H1,Y,ru,q⟩
theorem Ay(ha:PE X o ta)(Z:PE X value tv)(hs:qi0 value (ς (.Attribute o f pos')) pos.line X.env=pure ξ):PS X (.Assign [.Attribute o f pos'] value pos) (sFld X.K ta tv f):=by intro J0 s σ H D I h;refine plainObj_wpAny_Assign_Attribute (thn (Z J0 s σ H _ I h) λu s1 ⟨y,H1,U,ry,q⟩=>thn (ha J0 s1 σ H1 _ U q) λov s2 O=>?_) hs;have⟨x,H2,W,rx,a,C,dx,fs,ex,Y,c,n,l,q2⟩:=O;subst ex;obtain rfl:ov=qc3 a:=rx;exact g7 W Y c n l ry λs3 I3=>⟨σ,_,I3,q2⟩
theorem p9{op:qp3}{rd:V->V->Hp->VK->Prop}(ha:PE X o ta)(hv:PE X value tv)(Y:InOp X op rd):PS X (.AugAssign (.Attribute o f tpos) op value pos) (wx X.K ta tv rd f):=by
 intro J0 s σ H D I h;refine wpAny_AugAssign_AttributeAny (thn (ha J0 s σ H _ I h) λov s1 U=>?_);have⟨x,H1,Z,rx,a,C,dx,fs,v,ex,ea,c,n,l,q⟩:=U;subst ex;obtain rfl:ov=qc3 a:=rx;refine g6 Z ea c n l λu s2 I2 ru=>thn (hv J0 s2 σ H1 _ I2 q) λw3 s3 ⟨y,H2,I3,ry,q3⟩=>thn (Y J0 s3 σ H2 v y u w3 _ I3 ru ry q3) λw4 s4 O=>?_
 have⟨z,H3,I4,rz,dx',fs',W,l',q4⟩:=O;exact g7 I4 W c n l' rz λs5 I5=>⟨σ,_,I5,q4⟩
theorem yP{pl:Sem Bool}{apos:Pos}{args:η J8}{s:qa8}(Z:PE X e te)(I:Inv X J0 σ H s)
 (h:te σ H λx H1=>∃a C dx fs g,x=.ref a/\H1 a=ς (.ins C dx fs)/\Cls X.K C/\Meth X.K C m g/\fs.lookup m=ψ∧
 ∀s1,Inv X J0 σ H1 s1->wpAny (model X.prog X.w) X.A (zc7 pos (.ref g) [.ref a] (qh6 pos (qb3 args X.env)) (qo6 pos (qi3 [] X.env))) Q X.xe s1)
 (Y:eval (.Call (.Attribute e m apos) args [] pos) X.env=(do
 let ov <- eval e X.env
 qw6 apos.atName
 let (f,first) <- qo9 [ov] (qv0 ov m pl)
 zc7 pos f first (qh6 pos (qb3 args X.env)) (qo6 pos (qi3 [] X.env)))) :
  wpAny (model X.prog X.w) X.A (eval (.Call (.Attribute e m apos) args [] pos) X.env) Q X.xe s:=by
 refine xT9 (pl:=pl) (thn (Z J0 s σ H _ I h) λu s1 O=>?_) Y;have⟨x,H1,U,rx,a,C,dx,fs,g,ex,ea,c,k,l,q⟩:=O;subst ex;obtain rfl:u=qc3 a:=rx;exact dM U ea c k l (q s1 U)
end
section
variable{X:Cx}{J0:η (J4×Obj)}{σ:St}{H:Hp}{s:qa8}{A:ql0}{E Q:Value->qa8->Prop}{c:Value}{b:Bool}
inductive TyOf(K:xA9)(H:Hp):V->Value->Prop where
 |non:TyOf K H .non (.type "NoneType")
 |bl (x:Bool):TyOf K H (.bl x) (.type "bool")
 |int (i:Int):TyOf K H (.int i) (.type "int")
 |str (x:Str):TyOf K H (.str x) (.type "str")
 |flt (x:UInt64):TyOf K H (.flt x) (.type "float")
 |e {a:J4} {xs:List V} (e:H a=ς (.e xs)):TyOf K H (.ref a) (.type "list")
 |frz {a:J4} {o:Obj} {xs:List V} (e:H a=ς (.frz o (.e xs))):TyOf K H (.ref a) (.type "list")
 |t {a:J4} {xs:List V} (e:H a=ς (.t xs)):TyOf K H (.ref a) (.type "tuple")
 |dK {a:J4} {J1:List (Key×V)} (e:H a=ς (.dK J1)):TyOf K H (.ref a) (.type "dict")
 |dT {a:J4} {J1:List (List Key×V)} (e:H a=ς (.dT J1)):TyOf K H (.ref a) (.type "dict")
 | ins {a C dx:J4} {fs:List (Str×V)} (e:H a=ς (.ins C dx fs)) (cl:Cls K C) (ha:xB9 K (.ref C) "__class__"=ς (ς (.builtin "object.__class__")))
     (hn:PySem.W.specialIn K (.builtin "object.__class__") "__get__"=ς (ς (.builtin "getset_descriptor.__get__"))) (htk:PySem.W.takesIn K (.builtin "object.__class__")=ς θ)
     (hm:PySem.W.mroIn K C (.type "object")=ς θ):TyOf K H (.ref a) (.ref C)
theorem dv {x:V} {t:Value} (I:Inv X J0 σ H s) (Y:RelV x u) (ty:TyOf X.K H x t) (e:xI9 X.K t c=ς b) (h:∀ tk,Q (.bool b) {s with toks:=tk}) :
  wpAny (model X.prog X.w) A (call (.builtin "isinstance") [u,c]) Q E s:=by
 cases ty with
 |non=>cases (show u=qg8 from Y);exact xC9 PySem.W.kitx_none I.kIn qk9 e (λz=>nomatch z) h
 |bl y=>cases (show u=qs6 y from Y);exact xC9 PySem.W.kitx_bool I.kIn qk9 e (λz=>nomatch z) h
 |int i=>have⟨t,q⟩:=(show ∃t,u=zd5 i t from Y);cases q;exact xC9 PySem.W.kitx_int I.kIn qk9 e (λz=>nomatch z) h
 |str y=>have⟨t,q⟩:=(show ∃t,u=zd6 y t from Y);cases q;exact xC9 PySem.W.kitx_str I.kIn qk9 e (λz=>nomatch z) h
 |flt y=>have⟨t,q⟩:=(show ∃t,u=Value.float y t from Y);cases q;exact xC9 PySem.W.kitx_float I.kIn qk9 e (λz=>nomatch z) h
 |@e a xs U=>cases (show u=qc3 a from Y);have⟨_,_,n,_,h1⟩:=(show ObjOk X.prog X.w H s.heap a (.e xs)from I.hok a _ U);exact xC9 xU9 I.kIn ⟨_,h1,rfl⟩ e (λz=>nomatch z) h
 |@frz a ob xs U=>cases (show u=qc3 a from Y);have⟨_,_,_,n,_,h1⟩:=(show ObjOk X.prog X.w H s.heap a (.frz ob (.e xs))from I.hok a _ U);exact xC9 xU9 I.kIn ⟨_,h1,rfl⟩ e (λz=>nomatch z) h
 |@t a xs U=>cases (show u=qc3 a from Y);have⟨_,_,_,p⟩:=(show ObjOk X.prog X.w H s.heap a (.t xs)from I.hok a _ U);have⟨o,h1,h2,_⟩:=p.1;exact xC9 PySem.W.kitx_tuple I.kIn ⟨o,h1,h2⟩ e (λz=>nomatch z) h
 |@dK a J1 U=>cases (show u=qc3 a from Y);have⟨_,_,vs,_,p⟩:=(show ObjOk X.prog X.w H s.heap a (.dK J1)from I.hok a _ U);have⟨o,es,ep,h1,h2,_⟩:=p;exact xC9 xN9 I.kIn ⟨o,h1,h2.1⟩ e (λz=>nomatch z) h
 |@dT a J1 U=>cases (show u=qc3 a from Y);have⟨_,_,xs,_,o,es,ep,h1,h2,_⟩:=(show ObjOk X.prog X.w H s.heap a (.dT J1)from I.hok a _ U);exact xC9 xN9 I.kIn ⟨o,h1,h2.1⟩ e (λz=>nomatch z) h
 |@ins a C dx fs U cl ha hn Z hm=>cases (show u=qc3 a from Y);have⟨mA,O,_⟩:=gu I.hok U;have⟨od,J,_⟩:=O.look;exact xC9 (PySem.W.kitx_own (cl.get _) cl.hd ha hn Z hm) I.kIn J e (λz=>nomatch z) h
end
structure Room(k:Nat)(A:ql0):Prop where
 hd:A.handled=ψ
 dp:A.depth+3*k+5<recursionLimit
 un:A.units+16*k+200<cLine
theorem Room.mono{k:Nat}(r:Room k A)(h:j<=k):Room j A:=⟨r.hd,by have:=r.dp;lia,by have:=r.un;lia⟩
theorem Room.deeper{k:Nat}(r:Room (k+1) A)(env:Env):Room k (A.deeper env):=⟨r.hd,by have:=r.dp;show A.depth+1+3*k+5<_;lia,by have:=r.un;show A.units+3+16*k+200<_;lia⟩
theorem mO:(A.under (.builtin "type.__call__" ⟨.ref C::us,kw⟩)).depth=A.depth+1:=by first|rfl|simp[ze9,Code.weight,Code.isCreation,Code.isGuard,Code.isCaller,Code.frames,zf0,guardIds]
theorem mP:(A.under (.builtin "type.__call__" ⟨.ref C::us,kw⟩)).units=A.units+1:=by first|rfl|simp[ze9,Code.cUnits,Code.frames,zf0]
theorem Room.make{k:Nat}(r:Room (k+1) A)(C:J4)(us:η Value)(kw:η (Str×Value)):Room k (A.under (.builtin "type.__call__" ⟨.ref C::us,kw⟩)):=⟨r.hd,by have:=r.dp;rw[mO];lia,by have:=r.un;rw[mP];lia⟩
theorem Room.depth{k:Nat}(r:Room k A):A.depth<recursionLimit:=by have:=r.dp;lia
theorem Room.units{k:Nat}(r:Room k A):A.units+64<cLine:=by have:=r.un;lia
def mQ:TA:=λ_ H Q=>Q [] H
def Dq(ta:TE)(tr:TA):TA:=λσ H Q=>ta σ H λx H1=>tr σ H1 λxs H2=>Q (x::xs) H2
section
variable{X:Cx}{e:J8}{es:η J8}{te:TE}{t:TA}{pos:Pos}
theorem cj:PABq X [] mQ:=λ_ _ _ _ H Q I h=>Calls.spliced_nil ⟨[],H,I,.nil,h⟩
theorem bp(W:PE X e te)(hr:PABq X es t)(hs:qb3 (e::es) X.env=(ξ,eval e X.env)::qb3 es X.env:=by rfl):PABq X (e::es) (Dq te t):=by intro pos J0 s σ H Q I h;rw[hs];show wpAny _ _ (spliced ((ξ,eval e X.env)::qh6 pos (qb3 es X.env))) _ _ s;refine qw0 (thn (W J0 s σ H _ I h) λu s1 U=>?_);have⟨x,H1,Z,Y,q1⟩:=U;exact thn (hr pos J0 s1 σ H1 _ Z q1) λus s2 O=>by have⟨xs,H2,I2,r2,q2⟩:=O;exact⟨x::xs,H2,I2,.cons Y r2,q2⟩
def tTup(t:TA):TE:=λσ H Q=>t σ H λxs H1=>xs.length<=qa5/\∀p,H1 p=ψ->Q (.ref p) (upd H1 p (.t xs))
def tLst(t:TA):TE:=λσ H Q=>t σ H λxs H1=>xs.length<=qa5/\∀p,H1 p=ψ->Q (.ref p) (upd H1 p (.e xs))
theorem Az{x1}(h:PABq X es t):PE X (.Tuple es x1 pos) (tTup t):=by intro J0 s σ H Q I U;refine wpAny_Tuple_spliced (thn (h pos J0 s σ H _ I U) λus s1 ⟨xs,H1,O,r,z,q⟩=>⟨by rw[<- r.length];exact z,?_⟩);have hf:H1 s1.heap.objs.size=ψ:=O.hok.fresh (nL _);refine⟨.ref s1.heap.objs.size,upd H1 s1.heap.objs.size (.t xs),O.laid (t':=s1.toks) (λb u e=>gP _ e) (nL _) ?_,rfl,q _ hf⟩;exact⟨z,us,r,.new _ _⟩
theorem AA(h:PABq X es t):PE X (.List es pos) (tLst t):=by intro J0 s σ H Q I U;refine wpAny_List_spliced (thn (h pos J0 s σ H _ I U) λus s1 ⟨xs,H1,O,r,z,q⟩=>⟨by rw[<- r.length];exact z,?_⟩);have hf:H1 s1.heap.objs.size=ψ:=O.hok.fresh (nL _);refine⟨.ref s1.heap.objs.size,upd H1 s1.heap.objs.size (.e xs),O.laid (t':=s1.toks) (λb u e=>gP _ e) (nL _) ?_,rfl,q _ hf⟩;exact⟨z,us,0,r,qc0 _ rfl⟩
end
abbrev Sp:=η V->Hp->VK->XK->Prop
abbrev CXT:=η Env->Hp->qa8->XK->Value->qa8->Prop
structure Env0(P:qe5)(w:J5)(K:xA9)(mg:Str->Option Value)(base:Heap)(A:ql0)(outer:List Env)(s:qa8)(H:Hp):Prop where
 frames:A.frames=ς outer
 mod:Mod K mg base
 bs:∀b o,base.get? b=ς o->s.heap.get? b=ς o/\H b=ψ
 bsz:base.objs.size<=s.heap.objs.size
 funs:s.heap.FunFrames base outer
 frf:∀b∈frs outer,H b=ψ
 hok:HOk P w H s.heap
 bare:za9 s.gens
 tb:∀p∈lq K,H p.1=ς (.ctab p.2)
def CE(outer:η Env)(P:qe5)(w:J5)(H:Hp)(s:qa8)(Q:VK)(u:Value)(s':qa8):Prop:=∃v H',s'.os=s.os/\za9 s'.gens/\Un (frs outer) [] H H' s.heap s'.heap/\HOk P w H' s'.heap/\RelV v u/\Q v H'
def CR(CX:CXT)(outer:η Env)(P:qe5)(w:J5)(H:Hp)(s:qa8)(Q:VK)(E:XK)(r:Result)(s':qa8):Prop:=
 match r with
 |.ok (.ret u)=>CE outer P w H s Q u s'
 |.ok _=>False
 |.error e=>CX outer H s E e s'
structure FnOk(P:qe5)(w:J5)(K:xA9)(mg:Str->Option Value)(base:Heap)(CX:CXT)(k:Nat)(f:J4)(fd:qm9)(ps:List Str)(sp:Sp):Prop where
 len:∀vs H Q E,sp vs H Q E->vs.length=ps.length
 run:∀(A:ql0)(outer:List Env)(s:qa8)(H:Hp)(args:Args)(us:List Value)(vs:List V)(Q:VK)(E:XK),Room k A->Env0 P w K mg base A outer s H->zf8 s fd args (ps.zip us)->Vals vs us->sp vs H Q E→
  qv1 (model P w) A (.call (.ref f) args) (CR CX outer P w H s Q E) s
variable{mg:Str->ζ Value}{base:Heap}{CX:CXT}{ps:η Str}{sp:Sp}
theorem FnOk.mono {w:J5} {k:Nat} {f:J4} {fd:qm9} (F:FnOk P w K mg base CX j f fd ps sp) (h:j<=k) :
  FnOk P w K mg base CX k f fd ps sp:=⟨F.len,λA outer s H args us vs Q E O=>F.run A outer s H args us vs Q E (O.mono h)⟩
theorem FnOk.imp{w:J5}{k:Nat}{f:J4}{fd:qm9}{O:Sp}(F:FnOk P w K mg base CX k f fd ps sp)
 (h:∀vs H Q E,O vs H Q E->sp vs H Q E):FnOk P w K mg base CX k f fd ps O:=
 ⟨λvs H Q E q=>F.len vs H Q E (h _ _ _ _ q),λA outer s H args us vs Q E Y U hb W hs=>F.run A outer s H args us vs Q E Y U hb W (h _ _ _ _ hs)⟩
variable{outer:η Env}
theorem Env0.make {w:J5} {s:qa8} (e:Env0 P w K mg base A outer s H) (C:J4) (us:η Value) (kw:η (Str×Value)) :
  Env0 P w K mg base (A.under (.builtin "type.__call__" ⟨.ref C::us,kw⟩)) outer s H:=⟨by first|exact e.frames|(simpa[ze9,Code.envs,zf0,pushEnvs] using e.frames),e.mod,e.bs,e.bsz,e.funs,e.frf,e.hok,e.bare,e.tb⟩
section
variable{X:Cx}{J0:η (J4×Obj)}{σ:St}{H:Hp}{s s':qa8}
theorem Inv.env0(I:Inv X J0 σ H s):Env0 X.prog X.w X.K X.mg X.base X.A X.stack s H:=⟨I.ok.frames,I.ok.mod,I.bs,qd7 I.ok.bsz I.sz,I.stack,I.stkFree,I.hok,I.bare,λp hp=>I.base.cts _ _ (I.ok.tb p hp)⟩
theorem Inv.after{Q:VK}(I:Inv X J0 σ H s)(h:CE X.stack X.prog X.w H s Q u s'):EP X J0 σ Q u s':=by have⟨v,H',os,O,un,W,r,q⟩:=h;have⟨Y,g,d,t,U⟩:=s';obtain rfl:U=s.os:=os;exact⟨v,H',I.call (h':=Y) (g':=g) (d':=d) (t':=t) (ch:=[]) un W O (λb z=>absurd z Ξ),r,q⟩
end
def jf(sp:Sp)(dvs:η V)(E:XK)(t:TA):TE:=λσ H Q=>t σ H λvs H1=>sp (vs++dvs) H1 Q E
def rZ(C:J4)(m:Str)(sp:Sp)(dvs:η V)(E:XK)(ta:TE)(t:TA):TE:=λσ H Q=>ta σ H λx H1=>∃a dx fs,x=.ref a/\H1 a=ς (.ins C dx fs)/\fs.lookup m=ψ∧t σ H1 λvs H2=>sp (x::(vs++dvs)) H2 Q E
def r0(C:J4)(sp:Sp)(dvs:η V)(E:XK)(t:TA):TE:=λσ H Q=>t σ H λvs H1=>∀x dx,H1 x=ψ->H1 dx=ψ->dx≠x→
 sp (.ref x::(vs++dvs)) (upd (upd H1 dx (.own x)) x (.ins C dx [])) (λv H2=>v=.non/\Q (.ref x) H2) E
def Binds(K:xA9)(fd:qm9)(ps:η Str)(ds:η Value):Prop:=∀(s:qa8)(us:η Value),K.In s.heap->(us++ds).length=ps.length->zf8 s fd ⟨us,[]⟩ (ps.zip (us++ds))
theorem Binds.all{fd:qm9}(h:∀us:η Value,us.length=ps.length->zd9 fd ⟨us,[]⟩=pure (ps.zip us)):Binds K fd ps []:=λs us _ hl=>by rw[qf6]at hl ⊢;exact .of_eq (h us hl)
def ck(CX:CXT)(X:Cx)(E:XK):Prop:=∀(J0:η (J4×Obj))(σ:St)(H:Hp)(s:qa8)(e:Value)(s':qa8),Inv X J0 σ H s->CX X.stack H s E e s'->X.xe e s'
variable{vs:η V}
section
variable{X:Cx}{CX:CXT}{k:Nat}{f C:J4}{fd:qm9}{ps:η Str}{sp:Sp}{dvs:η V}{ds:η Value}{E:XK}{x m:Str}{p pos apos:Pos}{e o:J8}{es:η J8}{ta:TE}{t:TA}
omit x in
theorem jY{s:qa8}{Q:VK}(F:FnOk X.prog X.w X.K X.mg X.base CX k f fd ps sp)(Y:Room k X.A)(hb:Binds X.K fd ps ds)(W:Vals dvs ds)(Z:ck CX X E)
 (I:Inv X J0 σ H s) (r:Vals vs us) (h:sp (vs++dvs) H Q E):wpAny (model X.prog X.w) X.A (call (.ref f) us) (EP X J0 σ Q) X.xe s:=by
 have U:Vals (vs++dvs) (us++ds):=r.append W;have hl:(us++ds).length=ps.length:=by rw[<- U.length];exact F.len _ _ _ _ h
 refine wpAny_call (zb3 (F.run X.A X.stack s H ⟨us,[]⟩ (us++ds) (vs++dvs) Q E Y I.env0 (hb s us I.kIn hl) U h) λr s' O=>?_);cases r with
 |error e=>exact Z J0 σ H s e s' I O
 |ok fl=>
  cases fl with
  |ret u=>exact I.after O
  |next=>exact qk2 O
  |brk=>exact qk2 O
  |cont=>exact qk2 O
theorem oo (F:FnOk X.prog X.w X.K X.mg X.base CX k f fd ps sp) (hr:Room k X.A) (hg:Gl X x) (hm:X.mg x=ς (.ref f)) (hk:xD9 X.K (.ref f)=θ) (hb:Binds X.K fd ps ds) (hd:Vals dvs ds) (hx:ck CX X E)
  (Z:PABq X (e::es) t) (O:(x==("__debug__":Str))=ξ:=by decide) (he:qb3 (e::es) X.env=(ξ,eval e X.env)::qb3 es X.env:=by rfl) (U:(qh6 pos (qb3 es X.env)).any (·.1)=ξ:=by rfl) :
  PE X (.Call (.Name x p) (e::es) [] pos) (jf sp dvs E t):=by
 intro J0 s σ H Q I h;refine ql1 (el I hg hm ?_ O);refine xV9 (h₀:=X.base) I.ok.mod.kin hk (thn (Z pos J0 s σ H _ I h) λus s1 ⟨vs,H1,Y,r,q⟩=>⟨Y.kIn,?_⟩) he U;exact jY F hr hb hd hx Y r q
theorem r6 (F:FnOk X.prog X.w X.K X.mg X.base CX k f fd ps sp) (hr:Room k X.A) (Y:Gl X x) (hm:X.mg x=ς (.ref f)) (Z:xD9 X.K (.ref f)=θ) (hb:Binds X.K fd ps ds) (U:Vals dvs ds) (hx:ck CX X E)
  (O:(x==("__debug__":Str))=ξ:=by decide):PE X (.Call (.Name x p) [] [] pos) (jf sp dvs E mQ):=by
 intro J0 s σ H Q I h;refine ql1 (el I Y hm ?_ O);exact xW9 I.kIn Z (jY (us:=[]) F hr hb U hx I .nil h)
theorem wy {pl:Sem Bool} (he:PE X o ta) (c:Cls X.K C) (hm:Meth X.K C m f) (F:FnOk X.prog X.w X.K X.mg X.base CX k f fd ps sp) (hr:Room k X.A) (hb:Binds X.K fd ps ds) (hd:Vals dvs ds) (hx:ck CX X E) (ha:PABq X (e::es) t)
  (Y:qb3 (e::es) X.env=(ξ,eval e X.env)::qb3 es X.env:=by rfl) (U:(qh6 pos (qb3 es X.env)).any (·.1)=ξ:=by rfl)
  (ht:eval (.Call (.Attribute o m apos) (e::es) [] pos) X.env=(do
   let ov <- eval o X.env
   qw6 apos.atName
   let (f,first) <- qo9 [ov] (qv0 ov m pl)
   zc7 pos f first (qh6 pos (qb3 (e::es) X.env)) (qo6 pos (qi3 [] X.env))):=by rfl) :
  PE X (.Call (.Attribute o m apos) (e::es) [] pos) (rZ C m sp dvs E ta t):=by
 intro J0 s σ H Q I h;refine xT9 (pl:=pl) (thn (he J0 s σ H _ I h) λu s1 O=>?_) ht;have⟨x,H1,Z,rx,a,dx,fs,ex,ea,l,q⟩:=O;subst ex;obtain rfl:u=qc3 a:=rx;refine dM Z ea c hm l ?_;refine xV9 (first:=[.ref a]) (h₀:=X.base) I.ok.mod.kin hm.kp (thn (ha pos J0 s1 σ H1 _ Z q) λus s2 ⟨vs,H2,I2,r,q2⟩=>⟨I2.kIn,?_⟩) Y U;exact jY (us:=.ref a::us) (vs:=.ref a::vs) F hr hb hd hx I2 (.cons rfl r) q2
theorem r8 {pl:Sem Bool} (he:PE X o ta) (c:Cls X.K C) (Y:Meth X.K C m f) (F:FnOk X.prog X.w X.K X.mg X.base CX k f fd ps sp) (hr:Room k X.A) (hb:Binds X.K fd ps ds) (hd:Vals dvs ds) (hx:ck CX X E)
  (Z:eval (.Call (.Attribute o m apos) [] [] pos) X.env=(do
   let ov <- eval o X.env
   qw6 apos.atName
   let (f,first) <- qo9 [ov] (qv0 ov m pl)
   zc7 pos f first (qh6 pos (qb3 [] X.env)) (qo6 pos (qi3 [] X.env))):=by rfl) :
  PE X (.Call (.Attribute o m apos) [] [] pos) (rZ C m sp dvs E ta mQ):=by
 intro J0 s σ H Q I h;refine xT9 (pl:=pl) (thn (he J0 s σ H _ I h) λu s1 O=>?_) Z;have⟨x,H1,U,rx,a,dx,fs,ex,ea,l,q⟩:=O;subst ex;obtain rfl:u=qc3 a:=rx;refine dM U ea c Y l ?_;exact xW9 (first:=[.ref a]) U.kIn Y.kp (jY (us:=[.ref a]) (vs:=[.ref a]) F hr hb hd hx U (.cons rfl .nil) q)
structure Mk(K:xA9)(C f:J4):Prop where
 makes:xS9 K C=θ
 init:xB9 K (.ref C) "__init__"=ς (ς (.ref f))
 fn:xH9 K (.ref f)=θ
 kp:xD9 K (.ref C)=θ
omit x in
theorem lr{s:qa8}{Q:VK}(M:Mk X.K C f)(F:FnOk X.prog X.w X.K X.mg X.base CX k f fd ps sp)(hr:Room (k+1) X.A)(hb:Binds X.K fd ps ds)(hd:Vals dvs ds)
 (Z:ck CX X E) (I:Inv X J0 σ H s) (r:Vals vs us)
 (h:∀x dx,H x=ψ->H dx=ψ->dx≠x->sp (.ref x::(vs++dvs)) (upd (upd H dx (.own x)) x (.ins C dx [])) (λv H2=>v=.non/\Q (.ref x) H2) E) :
  wpAny (model X.prog X.w) X.A (call (.ref C) us) (EP X J0 σ Q) X.xe s:=by
 have Y:=h (s.heap.objs.size+1) s.heap.objs.size (I.hok.fresh (qn0 _)) (I.hok.fresh (nL _)) (qc5 (qp4 _));have U:=Inv.made (C:=C) I;have W:Vals (V.ref (s.heap.objs.size+1)::(vs++dvs)) (qc3 (s.heap.objs.size+1)::(us++ds)):=.cons rfl (r.append hd)
 have hl:(qc3 (s.heap.objs.size+1)::us++ds).length=ps.length:=by have e:=W.length;rw[F.len _ _ _ _ Y]at e;exact e.symm
 refine wpAny_call (rY (f:=f) I.kIn M.makes M.init (beq_iff_eq.mp M.fn) (zb3 (F.run _ X.stack _ _ ⟨qc3 (s.heap.objs.size+1)::us,[]⟩ (qc3 (s.heap.objs.size+1)::(us++ds)) _ _ E (hr.make C us [])
  (U.env0.make C us []) (hb _ (qc3 (s.heap.objs.size+1)::us) U.kIn hl) W Y) λr s' O=>?_))
 cases r with
 |error e=>exact Z J0 σ _ _ e s' U O
 |ok fl=>
  cases fl with
  |ret u=>have⟨v,H',I3,rv,ev,q3⟩:=U.after O;subst ev;exact⟨rv,⟨V.ref (s.heap.objs.size+1),H',I3,rfl,q3⟩⟩
  |next=>exact qk2 O
  |brk=>exact qk2 O
  |cont=>exact qk2 O
theorem wz (M:Mk X.K C f) (F:FnOk X.prog X.w X.K X.mg X.base CX k f fd ps sp) (hr:Room (k+1) X.A) (hg:Gl X x) (hm:X.mg x=ς (.ref C)) (hb:Binds X.K fd ps ds) (hd:Vals dvs ds) (hx:ck CX X E)
  (Z:PABq X (e::es) t) (O:(x==("__debug__":Str))=ξ:=by decide) (he:qb3 (e::es) X.env=(ξ,eval e X.env)::qb3 es X.env:=by rfl) (U:(qh6 pos (qb3 es X.env)).any (·.1)=ξ:=by rfl) :
  PE X (.Call (.Name x p) (e::es) [] pos) (r0 C sp dvs E t):=by
 intro J0 s σ H Q I h;refine ql1 (el I hg hm ?_ O);refine xV9 (h₀:=X.base) I.ok.mod.kin M.kp (thn (Z pos J0 s σ H _ I h) λus s1 ⟨vs,H1,Y,r,q⟩=>⟨Y.kIn,?_⟩) he U;exact lr M F hr hb hd hx Y r q
theorem r9 (M:Mk X.K C f) (F:FnOk X.prog X.w X.K X.mg X.base CX k f fd ps sp) (hr:Room (k+1) X.A) (Y:Gl X x) (Z:X.mg x=ς (.ref C)) (hb:Binds X.K fd ps ds) (U:Vals dvs ds) (hx:ck CX X E)
  (O:(x==("__debug__":Str))=ξ:=by decide):PE X (.Call (.Name x p) [] [] pos) (r0 C sp dvs E mQ):=by
 intro J0 s σ H Q I h;refine ql1 (el I Y Z ?_ O);exact xW9 I.kIn M.kp (lr (us:=[]) M F hr hb U hx I .nil h)
end
structure FnScope(N P:List Str)(sc:J9):Prop where
 kind:sc.kind=.function
 co:sc.isCoroutine=ξ
 gen:sc.isGenerator=ξ
 nd:N.Nodup
 pre:N.take P.length=P
 par:∀x∈P,sc.names.lookup x=ς .local\/sc.names.lookup x=ς .cell
 nofree:∀y∈sc.names,y.2≠.free
variable{kindOf:Str->ζ qw1}
theorem jg{x:Str}:∀{binds:η (Str×Value)}{m:Str->ζ Value},(∀v,(x,v)∉binds)->bindL kindOf binds m x=m x
 |[],_,_=>rfl
 |(n,v)::r,m,h=>by
  unfold bindL;rw[jg λw hw=>h w (qe4 _ hw)];split
  .have:x≠n:=by rintro rfl;exact h v qi9
   simp[this]
  .rfl
theorem jh{x:Str}:∀{binds:η (Str×Value)}{m:Str->ζ Value},(∀v,(x,v)∉binds)->bindC kindOf binds m x=m x
 |[],_,_=>rfl
 |(n,v)::r,m,h=>by
  unfold bindC;rw[jh λw hw=>h w (qe4 _ hw)];split
  .rfl
  .have:x≠n:=by rintro rfl;exact h v qi9
   simp[this]
theorem ji {x:Str} {v:Value}:∀ {P:η Str} {vs:η Value} {i:Nat} {m:Str->ζ Value},P.Nodup->P[i]?=ς x->vs[i]?=ς v->kindOf x=ς .local→
  bindL kindOf (P.zip vs) m x=ς v
 |[],_,_,_,_,h,_,_=>by simp at h
 |_::_,[],_,_,_,_,h,_=>by simp at h
 |p::P,w::vs,0,m,nd,h1,h2,hk=>by
  simp at h1 h2;subst h1;subst h2
  show bindL kindOf ((p,w)::P.zip vs) m p=_;unfold bindL;rw[jg λv hv=>(qc8.mp nd).1 (zb4 hv).1,if_pos hk];simp
 |p::P,w::vs,i+1,m,nd,h1,h2,hk=>by show bindL kindOf ((p,w)::P.zip vs) m x=_;unfold bindL;exact ji (i:=i) (qc8.mp nd).2 ‹h1› ‹h2› hk
theorem jj {x:Str} {v:Value}:∀ {P:η Str} {vs:η Value} {i:Nat} {m:Str->ζ Value},P.Nodup->P[i]?=ς x->vs[i]?=ς v->kindOf x≠ς .local→
  bindC kindOf (P.zip vs) m x=ς v
 |[],_,_,_,_,h,_,_=>by simp at h
 |_::_,[],_,_,_,_,h,_=>by simp at h
 |p::P,w::vs,0,m,nd,h1,h2,hk=>by
  simp at h1 h2;subst h1;subst h2
  show bindC kindOf ((p,w)::P.zip vs) m p=_;unfold bindC;rw[jh λv hv=>(qc8.mp nd).1 (zb4 hv).1,if_neg hk];simp
 |p::P,w::vs,i+1,m,nd,h1,h2,hk=>by show bindC kindOf ((p,w)::P.zip vs) m x=_;unfold bindC;exact jj (i:=i) (qc8.mp nd).2 ‹h1› ‹h2› hk
noncomputable def dD(N:η Str)(vs:η V):St:=vs.map ς++qb0 (N.length-vs.length) ψ
noncomputable def qa(CX:CXT)(P:qe5)(w:J5)(K:xA9)(mg:Str->ζ Value)(base:Heap)(N:η Str)(qual:Str)(scope:J9)(f:J4)(cd:Value)(A:ql0)(outer:η Env)(s:qa8)(H:Hp)(E:XK):Cx where
 prog:=P
 w:=w
 K:=K
 mg:=mg
 base:=base
 A:=A.deeper (zf9 qual scope s.heap.objs.size f cd)
 N:=N
 s₀:=s
 H₀:=H
 env:=zf9 qual scope s.heap.objs.size f cd
 outer:=outer
 stack:=zf9 qual scope s.heap.objs.size f cd::outer
 ex:=[]
 calm:=true
 fn:=λ_=>θ
 pn:=[]
 xe:=λe s'=>wpAny (model P w) (A.deeper (zf9 qual scope s.heap.objs.size f cd)) (leaving (zf9 qual scope s.heap.objs.size f cd) e) (λ_ O=>CX outer H s E e O) (λU O=>CX outer H s E U O) s'
theorem lu{sc:J9}{n:Nat}{x:Str}(h:sc.names.lookup x=ς .cell):∃c,(cellsFrom n sc.names []).lookup x=ς c:=by have q:=PySem.W.cellsFrom_some sc.names n [] (.inl h);exact qq8.mp q
variable{qual:Str}{scope:J9}
theorem qb{w:J5}{f:J4}{cd:Value}{s s1:qa8}{E:XK} 
 (S:FnScope N ps scope) (hd:A.handled=ψ) (O:Env0 P w K mg base A outer s H) (hl:vs.length=ps.length) (r:Vals vs us)
 (x:InCallC s s.heap.objs.size (bindL (zf9 qual scope s.heap.objs.size f cd).kindOf (ps.zip us) λ_=>ψ) (cellsFrom (s.heap.objs.size+1) scope.names []) (bindC (zf9 qual scope s.heap.objs.size f cd).kindOf (ps.zip us) λ_=>ψ) s1) :
  Inv (qa CX P w K mg base N qual scope f cd A outer s H E) [] (dD N vs) H s1:=by
 have hpl:ps.length<=N.length:=by have:=congrArg ql7 S.pre;rw[qn3]at this;lia
 have⟨h1,tk,rfl,hk⟩:=x.done;have U:∀b:J4,b∉(qa CX P w K mg base N qual scope f cd A outer s H E).ex:=λb z=>absurd (show b∈([]:η J4)from z) Ξ
 refine⟨⟨O.mod,S.kind,rfl,rfl,nL _,λy z c h1 h2=>?_,λy W=>?_,λy c _ h=>?_,λ_=>hd,ql0.frames_deeper O.frames,.inr ⟨rfl,rfl⟩,λb z=>absurd z (U b),O.bs,O.bsz,λb _ _=>U b,λb z=>absurd z (U b),O.funs,O.frf,O.tb⟩,rfl,O.bare,Un.kept hk,⟨_,x.toInCall.ns,λi y v h1 h2 h3=>?_⟩,λy c h=>⟨_,x.cell y c h⟩,O.hok.fresh (qs5 _),λy c h=>?_,λp hp=>absurd (show p∈([]:η (J4×Obj))from hp) Ξ,O.hok.kept hk,?_⟩
 .exact name_of_addr x.apart (PySem.mem_of_lookup h1) (PySem.mem_of_lookup h2)
 .have W:scope.names.lookup y=ς .cell\/scope.names.lookup y=ς .free:=W;rcases W with W|W
  .exact lu W
  .exact absurd rfl (S.nofree _ (PySem.mem_of_lookup W))
 .exact qq7 (x.above y c (PySem.mem_of_lookup h))
 .have hi:i<vs.length:=by
   unfold dD at h2;by_cases hi:i<vs.length
   .exact hi
   .rw[qe1 ‹hi›]at h2;rw[qr9]at h2;split at h2<;>cases h2
  have ha:vs[i]?=ς v:=by
   unfold dD at h2;rw[qi5 ‹hi›,qa9]at h2;cases e:vs[i]? with
   |none=>rw[e]at h2;cases h2
   |some a=>rw[e]at h2;cases h2;rfl
  have⟨u,Z,rv⟩:=r.get ha
  have hp:ps[i]?=ς y:=by rw[<- S.pre,qq9 Θ];exact h1
  have Y:ps.Nodup:=by rw[<- S.pre];exact S.nd.sublist (qo7 _ _)
  refine⟨u,rv,?_⟩;rcases S.par y (qa4 hp)with k|k
  .exact .inl ⟨k,ji Y hp Z k⟩
  .have⟨c,e⟩:=lu (n:=s.heap.objs.size+1) k;refine .inr ⟨.inl k,c,e,?_⟩;have q:=x.cell y c e;rw[jj Y hp Z (by show scope.names.lookup y≠_;rw[k];decide)]at q;exact q
 .exact O.hok.fresh (qq7 (x.above y c (PySem.mem_of_lookup h)))
 .unfold dD;show _=N.length;rw[qc4,qa2,List.length_replicate];lia
omit x in
theorem Dr{w:J5}{k:Nat}{f:J4}{name:Str}{U:Arguments}{dV kV doc pm O ct oc:Value}{an od:ζ J4}
 {osl:Array (ζ Value)} (lk:K.lookup f=ς ⟨oc,od,.func (PySem.W.fnOf name qual U body scope dV kV doc pm an O ct),osl⟩) (hcd:PySem.W.codeIn K O qual=θ) (S:FnScope N ps scope)
 (len:∀vs H Q E,sp vs H Q E->vs.length=ps.length)
 (hbody:∀(A:ql0)(outer:η Env)(s:qa8)(H:Hp)(vs:η V)(Q:VK)(E:XK),Room k (A.deeper (zf9 qual scope s.heap.objs.size f O))->sp vs H Q E→
 ∃t,PSs (qa CX P w K mg base N qual scope f O A outer s H E) body t/\t {nx:=λ_ H'=>Q .non H',rt:=Q} (dD N vs) H) :
  FnOk P w K mg base CX (k+1) f (PySem.W.fnOf name qual U body scope dV kV doc pm an O ct) ps sp:=by
 refine⟨len,λA outer s H args us vs Q E hr e0 hb r hsp=>?_⟩;have hl:=len _ _ _ _ hsp;have KX:K.In s.heap:=e0.mod.kin.keeps λb o e=>(e0.bs b o e).1
 have lim:s.heap.NoLimit:=e0.mod.nolimit.keeps λb o e=>(e0.bs b o e).1
 have Z:∀y∈ps.zip us,scope.names.lookup y.1=ς .local\/(scope.names.lookup y.1=ς .cell/\((cellsFrom (s.heap.objs.size+1) scope.names []).lookup y.1).isSome=θ):=λhq81 hy=>by
  have⟨n,v⟩:=hq81;rcases S.par n (zb4 hy).1 with q|q
  .exact .inl q
  .exact .inr ⟨q,PySem.W.cellsFrom_some _ _ _ (.inl q)⟩
 refine codeAny_call_function hr.depth (KX _ _ lk) rfl S.co S.gen rfl (PySem.W.codeRec_of KX hcd) (hb _ _ _ _ ?_);refine wpAny_newFunctionEnv_cells S.kind Z λenv he s1 x=>?_
 subst he;refine⟨lim.keeps x.toInCall.keep,codeAny_func ?_⟩;have⟨t,ht,hq⟩:=hbody A outer s H vs Q E (hr.deeper _) hsp;have I:Inv (qa CX P w K mg base N qual scope f O A outer s H E) [] (dD N vs) H s1:=qb S hr.hd e0 hl r x;refine qn4 (ht [] s1 (dD N vs) H _ I hq) (λfl s' hs=>?_) λe s' hs=>hs
 have fin:∀{Y:St}{H':Hp}{v:V}{u:Value},Inv (qa CX P w K mg base N qual scope f O A outer s H E) [] Y H' s'->RelV v u->Q v H'->CE outer P w H s Q u s':=λ{Y H' v u} J rv q=>⟨v,H',J.os,J.bare,J.base,J.hok,rv,q⟩
 cases fl with
 |ret u=>have⟨v,Y,H',J,rv,q⟩:=hs;exact fin J rv q
 |next=>have⟨Y,H',J,q⟩:=hs;exact fin (v:=V.non) (u:=qg8) J rfl q
 |brk=>have⟨_,_,_,q⟩:=hs;exact qk2 q
 |cont=>have⟨_,_,_,q⟩:=hs;exact qk2 q
section
variable{X:Cx}{x:Str}{p pos:Pos}{e:J8}{es:η J8}{t:TA}{id T:String}{r:η V->Hp->VK->Prop}
def tCB(r:η V->Hp->VK->Prop)(t:TA):TE:=λσ H Q=>t σ H λvs H1=>r vs H1 Q
theorem se (hc:bR X (.builtin id) r) (hg:Gl X x) (hm:X.mg x=ψ) (hv:qf5 x=ς (.builtin id)) (Y:PABq X (e::es) t) (hn:x≠"__name__":=by decide) (U:(x==("__debug__":Str))=ξ:=by decide)
  (he:qb3 (e::es) X.env=(ξ,eval e X.env)::qb3 es X.env:=by rfl) (W:(qh6 pos (qb3 es X.env)).any (·.1)=ξ:=by rfl):PE X (.Call (.Name x p) (e::es) [] pos) (tCB r t):=by
 intro J0 s σ H Q I h;refine ql1 (gV I hg hm hv ?_ hn U);exact PyProof.Rows.callWith_builtin1 (thn (Y pos J0 s σ H _ I h) λus s1 O=>by have⟨vs,H1,I1,Z,q1⟩:=O;exact hc J0 s1 σ H1 vs us Q I1 Z q1) he W
theorem qc (hc:bR X (.type T) r) (hg:Gl X x) (hm:X.mg x=ψ) (hv:qf5 x=ς (.type T)) (Y:PABq X (e::es) t) (hn:x≠"__name__":=by decide) (U:(x==("__debug__":Str))=ξ:=by decide)
  (he:qb3 (e::es) X.env=(ξ,eval e X.env)::qb3 es X.env:=by rfl) (W:(qh6 pos (qb3 es X.env)).any (·.1)=ξ:=by rfl):PE X (.Call (.Name x p) (e::es) [] pos) (tCB r t):=by
 intro J0 s σ H Q I h;refine ql1 (gV I hg hm hv ?_ hn U);exact qo1 (thn (Y pos J0 s σ H _ I h) λus s1 O=>by have⟨vs,H1,I1,Z,q1⟩:=O;exact hc J0 s1 σ H1 vs us Q I1 Z q1) he W
end
end L2
namespace HT
open PySem PyProof.Rows
variable{Q:Value->qa8->Prop}{vu:Value}{lo hi:ζ Int}
section
variable{prog:qe5}{w:J5}{A:ql0}{E:Value->qa8->Prop}{s:qa8}
theorem Fe{t b:J4}{vs ws:η Value}(ht:IsTup s.heap t vs.toArray)(hb:IsTup s.heap b ws.toArray)(hv:vs≠[])
 (h1:ws=[]->Q (.ref t) s) (h2:ws≠[]->Q (.ref s.heap.objs.size) {s with heap:=s.heap.push {cls:=.type "tuple",data:=.seq (vs++ws).toArray}})
 (hsz:vs.length+ws.length<=qa5):wpAny (model prog w) A (qh7 .Add (.ref t) (.ref b)) Q E s:=by
 have⟨⟨cls,dd,data,sl⟩,ho,hc,n,hd⟩:=id ht;have⟨⟨cls2,W,data2,Z⟩,O,U,n2,Y⟩:=id hb;simp only at hc hd U Y;subst hc hd U Y;have e:vs.toArray++ws.toArray=(vs++ws).toArray:=by simp
 by_cases hw:ws=[]
 .exact qw2 ⟨_,ho,rfl⟩ ⟨_,O,rfl⟩ qt8 qy9 PySem.F.slot_tuple_add PySem.F.entry_tuple_add (PySem.F.args_tuple_add_2 _ _)
   (tuple_addW1 t b vs.toArray ws.toArray n n2 dd W sl Z ‹hv› (by simp[hw])) ⟨ho,O,h1 hw⟩
 .refine qw2 ⟨_,ho,rfl⟩ ⟨_,O,rfl⟩ qt8 qy9 PySem.F.slot_tuple_add PySem.F.entry_tuple_add (PySem.F.args_tuple_add_2 _ _)
   (tuple_addW2 t b vs.toArray ws.toArray n n2 dd W sl Z ‹hv› ‹hw› (by rw[qb5,qb5];exact hsz)) ⟨ho,O,?_⟩
  rw[e];exact h2 hw
def sIx(n d:Nat):ζ Int->Nat
 |none=>d
 |some v=>if v<0 then(v+(n:Int)).toNat else min v.toNat n
theorem Ff(n d k:Nat):sIx n d (ς (k:Int))=min k n:=by show(if(k:Int)<0 then((k:Int)+(n:Int)).toNat else min (k:Int).toNat n)=min k n;rw[if_neg Θ,qk3]
theorem AB(n d:Nat)(U:d<=n)(o:ζ Int):sIx n d o<=n:=by
 cases o with
 |none=>exact U
 |some v=>
  show(if v<0 then(v+(n:Int)).toNat else min v.toNat n)<=n;by_cases O:v<0
  .rw[if_pos O];lia
  .rw[if_neg O];exact Nat.min_le_right _ _
theorem oq(v:Int)(n d:Nat):(if v<0 then max (v+(n:Int)) 0 else min v (n:Int))=((sIx n d (ς v):Nat):Int):=by
 show(if v<0 then max (v+(n:Int)) 0 else min v (n:Int))=(((if v<0 then(v+(n:Int)).toNat else min v.toNat n):Nat):Int);by_cases O:v<0
 .rwa[if_pos O];lia
 .rwa[if_neg O];lia
theorem mR(lo hi:ζ Int)(n:Nat):qp1 lo hi 1 (n:Int)=(((sIx n 0 lo:Nat):Int),((sIx n n hi:Nat):Int)):=by
 have h1:¬ ((1:Int)<0):=by lia
 unfold qp1;rwa[h1,if_false];refine Prod.ext ?_ ?_
 .cases lo with
  |none=>rfl
  |some v=>exact oq v n 0
 .cases hi with
  |none=>rfl
  |some v=>exact oq v n n
theorem mT(i j:Nat):ql8 (i:Int) (j:Int) 1=j-i:=by
 unfold ql8;have h1:(1:Int) > 0:=by lia
 rwa[h1,if_true,Int.ediv_one];split<;>lia
theorem g9{v:Value}{o:ζ Int}{Q:ζ Int->qa8->Prop}(p:zf1 v o)(h:Q o s):wpAny (model prog w) A (qj2.Slice.slicePartIndex v) Q E s:=by
 cases p with
 |none=>exact slicePart_none h
 |int i t=>exact slicePart_int h
theorem fF{sl:J4}{vl:Value}{n:Nat}{Q:Int×Int×Nat->qa8->Prop}(hs:s.heap.IsSliceOf sl vl vu .none)(pl:zf1 vl lo)(W:zf1 vu hi)
 (h:Q (((sIx n 0 lo:Nat):Int),1,sIx n n hi-sIx n 0 lo) s):wpAny (model prog w) A (qv7 (.ref sl) (pure (n:Int))) Q E s:=by
 have⟨Z,O,Y,U⟩:=id hs;unfold qv7 qj2.Slice.sliceFields;refine wB (wB (qj3 O U (x:=vl) rfl (wB (qj3 O U (x:=vu) rfl (wB (qj3 O U (x:=.none) rfl (qa6 ?_)))))));refine wB (slicePart_none ?_);show wpAny _ _ (if((1:Int)==0)=θ then _ else _) _ _ s;rw[if_neg Ω];refine wB (g9 pl (wB (g9 W (wB (qa6 ?_)))));show wpAny _ _ (match qp1 lo hi 1 (n:Int)with|(lo,hi)=>pure (lo,(1:Int),ql8 lo hi 1)) _ _ s;rw[mR lo hi n];show wpAny _ _ (pure (((sIx n 0 lo:Nat):Int),(1:Int),ql8 ((sIx n 0 lo:Nat):Int) ((sIx n n hi:Nat):Int) 1)) _ _ s;rw[mT];exact qa6 h
theorem sf(xs:Array Value)(i k:Nat):((qd9 k).filterMap λ(m:Nat)=>xs[((i:Int)+(m:Int)*1).toNat]?).toArray=((xs.toList.drop i).take k).toArray:=by
 have e:(λ(m:Nat)=>xs[((i:Int)+(m:Int)*1).toNat]?)=λm=>xs[i+m]?:=by
  funext m;have:((i:Int)+(m:Int)*1).toNat=i+m:=by lia
  rw[this]
 rw[e];have:=pick_run xs i k;rw[List.filterMap_map]at this;have e2:((λx=>xs[x]?) ∘ λx=>i+x)=λm=>xs[i+m]?:=rfl
 rw[e2]at this;rw[this]
theorem ou{t sl:J4}{items:Array Value}{vl:Value}(U:IsTup s.heap t items)(hs:s.heap.IsSliceOf sl vl vu .none)(pl:zf1 vl lo)(pu:zf1 vu hi)
 (hw:¬ (sIx items.size 0 lo=0/\sIx items.size items.size hi=items.size))
 (h:Q (.ref s.heap.objs.size) {s with heap:=s.heap.push {cls:=.type "tuple",data:=.seq ((items.toList.drop (sIx items.size 0 lo)).take (sIx items.size items.size hi-sIx items.size 0 lo)).toArray}})
 (hsz:items.size<=qa5):wpAny (model prog w) A (zg0 (.ref t) (.ref sl)) Q E s:=by
 have O:sizeOk (.seq ((items.toList.drop (sIx items.size 0 lo)).take (sIx items.size items.size hi-sIx items.size 0 lo)).toArray):=by show((items.toList.drop (sIx items.size 0 lo)).take (sIx items.size items.size hi-sIx items.size 0 lo)).toArray.size<=qa5;rw[qb5,qn3,qt9,qq2];lia
 have hj:sIx items.size items.size hi<=items.size:=AB _ _ (nL _) hi;have⟨os,Z,Y,hds⟩:=id hs;have W:s.TypeIs (.ref sl) "slice":=⟨os,Z,Y⟩;unfold zg0
 try with_reducible refine qm8 ?_
 first|refine wB (qa6 ?_)|skip
 refine wB (wpAny_sequenceKey U.typeIs Ω ?_)
 refine wB (qj8 (name:=qd0 "__getitem__") U.typeIs qm2
  (qj4 qm2 U.typeIs entry_tuple_getitem ?_ (args_tuple_getitem _ _)))
 show wpAny _ _ (qj2.Tuple.tupleItemsOf (.ref t) >>= _) _ _ s;refine wB (tupleItemsOf_ U ?_);refine wB (zb5 W ?_);rw[if_pos Ω];refine wB (fF hs pl pu ?_)
 have hno:¬ ((((sIx items.size 0 lo:Nat):Int)==0&&(1:Int)==1&&(sIx items.size items.size hi-sIx items.size 0 lo)==items.size)=θ):=by intro q;rw[qa1,qa1]at q;have q1:((sIx items.size 0 lo:Nat):Int)=0:=eq_of_beq q.1.1;have q2:sIx items.size items.size hi-sIx items.size 0 lo=items.size:=eq_of_beq q.2;exact hw ⟨Θ,Θ⟩
 show wpAny _ _ (if(((sIx items.size 0 lo:Nat):Int)==0&&(1:Int)==1&&(sIx items.size items.size hi-sIx items.size 0 lo)==items.size)=θ then _ else _) _ _ s;rw[if_neg hno,sf]
 first
  |exact wB (m:=qm3 _) (qf3 (qa6 ⟨_,rfl,qa6 h⟩) O)
  |exact wB (m:=qm3 _) (qf3 (wB (qa6 (qa6 ⟨_,rfl,qa6 h⟩))) O)
  |exact wB (wB (m:=qm3 _) (qf3 (qa6 (qa6 ⟨_,rfl,qa6 h⟩)) O))
  |exact wB (wB (m:=qm3 _) (qf3 (qa6 ⟨_,rfl,qa6 h⟩) O))
end
end HT
namespace L2
open PySem PySem.Spec PyProof.Rows
abbrev TO:=St->Hp->(ζ Int->Hp->Prop)->Prop
def PO(X:Cx)(e:ζ J8)(t:TO):Prop:=
 ∀(J0:η (J4×Obj))(s:qa8)(σ:St)(H:Hp)(Q:ζ Int->Hp->Prop),Inv X J0 σ H s->t σ H Q→
  wpAny (model X.prog X.w) X.A (evalPart e X.env) (λu s'=>∃o H',Inv X J0 σ H' s'/\zf1 u o/\Q o H') X.xe s
def wA:TO:=λ_ H Q=>Q ψ H
def Ds(t:TE):TO:=λσ H Q=>t σ H λx H1=>∃i,x=.int i/\Q (ς i) H1
variable{r:V->ζ Int->ζ Int->Hp->VK->Prop}{xs:η V}{us:η Value}
section
variable{X:Cx}{e:J8}{te:TE}{lo hi:ζ J8}{tl th:TO}{pos p2:Pos}
theorem wC:PO X ψ wA:=by intro J0 s σ H Q I h;rw[evalPart_none];exact qa6 ⟨ψ,H,I,.none,h⟩
theorem wD(h:PE X e te):PO X (ς e) (Ds te):=by
 intro J0 s σ H Q I Y;rw[evalPart_some];refine thn (h J0 s σ H _ I Y) λu s1 O=>?_
 have⟨x,H1,W,U,q1⟩:=O;have⟨i,rfl,q⟩:=q1;have⟨t,rfl⟩:=U;exact⟨ς i,H1,W,.int i t,q⟩
def SlR(X:Cx)(r:V->ζ Int->ζ Int->Hp->VK->Prop):Prop:=
 ∀(J0:η (J4×Obj))(s:qa8)(σ:St)(H:Hp)(x:V)(v vl vu:Value)(lo hi:ζ Int)(sl:J4)(Q:VK),Inv X J0 σ H s->RelV x v->s.heap.IsSliceOf sl vl vu .none->zf1 vl lo->zf1 vu hi->r x lo hi H Q→
  ∃T id,typeLookup (.type T) "__getitem__"=pure (ς (.builtin id))/\s.TypeIs v T/\wpAny (model X.prog X.w) X.A (zg0 v (.ref sl)) (EP X J0 σ Q) X.xe s
theorem SlR.or{O:V->ζ Int->ζ Int->Hp->VK->Prop}(h:SlR X r)(h':SlR X O):SlR X (λx lo hi H Q=>r x lo hi H Q\/O x lo hi H Q):=by
 intro J0 s σ H x v vl vu lo hi sl Q I W hs pl U q;rcases q with q|q
 .exact h J0 s σ H x v vl vu lo hi sl Q I W hs pl U q
 .exact h' J0 s σ H x v vl vu lo hi sl Q I W hs pl U q
def tSl(r:V->ζ Int->ζ Int->Hp->VK->Prop)(te:TE)(tl th:TO):TE:=λσ H Q=>te σ H λx H1=>tl σ H1 λl H2=>th σ H2 λu O=>r x l u O Q
theorem si(hr:SlR X r)(he:PE X e te)(hl:PO X lo tl)(Y:PO X hi th):PE X (.Subscript e (.Slice lo hi ψ p2) pos) (tSl r te tl th):=by
 intro J0 s σ H Q I h;refine Subscript_ (thn (he J0 s σ H _ I h) λv s1 U=>?_);have⟨x,H1,I1,r1,q1⟩:=U;refine wpAny_Slice (thn (hl J0 s1 σ H1 _ I1 q1) λvl s2 ⟨l,H2,I2,pl,q2⟩=>thn (Y J0 s2 σ H2 _ I2 q2) λvu s3 O=>?_);have⟨u,W,I3,pu,q3⟩:=O;rw[evalPart_none];refine qa6 ?_;have I4:Inv X J0 σ W {s3 with heap:=s3.heap.push {cls:=.type "slice",data:=.fields #[vl,vu,.none]}}:=I3.kept (t':=s3.toks) λb ob q=>gP _ q
 have⟨T,id,hT,Z,hg⟩:=hr J0 {s3 with heap:=s3.heap.push {cls:=.type "slice",data:=.fields #[vl,vu,.none]}} σ W x v vl vu l u s3.heap.objs.size Q I4 r1 (Heap.IsSliceOf.new ..) pl pu q3;show wpAny (model X.prog X.w) X.A (ze0 e (.Slice lo hi ψ p2) v (.ref s3.heap.objs.size)) (EP X J0 σ Q) X.xe {s3 with heap:=s3.heap.push {cls:=.type "slice",data:=.fields #[vl,vu,.none]}};exact tail_any (ops:=[.ref s3.heap.objs.size,v]) Z hT hg (by with_unfolding_all rfl)
noncomputable def lw(xs:η V)(lo hi:ζ Int):η V:=(xs.drop (HT.sIx xs.length 0 lo)).take (HT.sIx xs.length xs.length hi-HT.sIx xs.length 0 lo)
theorem f9(xs:η V)(lo hi:ζ Int):(lw xs lo hi).length<=xs.length:=by unfold lw;rw[qn3,qt9];lia
def rSlT(K:xA9):V->ζ Int->ζ Int->Hp->VK->Prop:=λx lo hi H Q=>∃a xs,x=.ref a/\SqT K H a xs∧¬ (HT.sIx xs.length 0 lo=0/\HT.sIx xs.length xs.length hi=xs.length)/\∀p,H p=ψ->Q (.ref p) (upd H p (.t (lw xs lo hi)))
theorem AC:SlR X (rSlT X.K):=by
 intro J0 s σ H x v vl vu lo hi sl Q I Z hs pl Y h;have⟨a,xs,rfl,W,hw,q⟩:=h;cases Z;have⟨J3,r,U,hz⟩:=I.tuple W;have O:J3.toArray.size=xs.length:=by rw[qb5];exact r.length.symm
 refine⟨"tuple",_,qm2.lookup,U.typeIs,?_⟩;refine HT.ou U hs pl Y (by rw[O];exact hw) ?_ (by rw[O];exact hz);rw[O];refine⟨.ref s.heap.objs.size,_,I.laid (t':=s.toks) (o:=.t (lw xs lo hi)) (λb ob q=>gP _ q) (nL _) ?_,rfl,q _ (I.hok.fresh (nL _))⟩;exact⟨qd7 (f9 xs lo hi) hz,_,(r.drop (HT.sIx xs.length 0 lo)).take (HT.sIx xs.length xs.length hi-HT.sIx xs.length 0 lo),IsTu.new _ _⟩
def yQ(K:xA9):R2:=λx y H Q=>∃a b xs ys,x=.ref a/\y=.ref b/\SqT K H a xs/\SqT K H b ys/\xs≠[]/\xs.length+ys.length<=qa5∧(ys=[]->Q (.ref a) H)/\(ys≠[]->∀p,H p=ψ->Q (.ref p) (upd H p (.t (xs++ys))))
theorem Vals.nil_iff(r:Vals xs us):us=[]↔xs=[]:=by
 cases r with
 |nil=>simp
 |cons _ _=>simp
theorem wE:OpR X (qh7 .Add) (yQ X.K):=by intro J0 s σ H x y v u Q I rx ry h;have⟨a,b,xs,ys,rfl,rfl,Z,hb,Y,hz,q1,q2⟩:=h;cases rx;cases ry;have⟨J3,U,p1,_⟩:=I.tuple Z;have⟨W,O,p2,_⟩:=I.tuple hb;refine HT.Fe p1 p2 (λz=>Y (U.nil_iff.mp z)) (λz=>⟨.ref a,H,I,rfl,q1 (O.nil_iff.mp z)⟩) (λz=>?_) (by rw[<- U.length,<- O.length];exact hz);refine⟨.ref s.heap.objs.size,_,I.laid (t':=s.toks) (o:=.t (xs++ys)) (λb ob q=>gP _ q) (nL _) ?_,rfl,q2 (λw=>z (O.nil_iff.mpr w)) _ (I.hok.fresh (nL _))⟩;exact⟨by rw[qc4];exact hz,_,U.append O,IsTu.new _ _⟩
end
noncomputable def ixN(n:Nat)(i:Int):ζ Nat:=if 0<=i then(if i<n then ς i.toNat else ψ)else if -(n:Int)<=i then ς (i+n).toNat else ψ
def atI{α:Type}(xs:η α)(i:Int):ζ α:=(ixN xs.length i).bind λj=>xs[j]?
variable{j:Nat}
theorem ox{n:Nat}{i:Int}(h:ixN n i=ς j):ze1 i n=ς j/\j<n/\-(n:Int)<=i/\i<n:=by
 unfold ixN at h;by_cases O:0<=i
 .rw[if_pos O]at h;by_cases h1:i<n
  .rw[if_pos h1]at h;have e:i.toNat=j:=qd5 h;exact⟨by rw[seqIndex_of O h1,e],Θ,Θ,h1⟩
  .rw[if_neg h1]at h;cases h
 .rw[if_neg O]at h;by_cases h1:-(n:Int)<=i
  .rw[if_pos h1]at h;have e:(i+n).toNat=j:=qd5 h;exact⟨by rw[zf2 Θ h1,e],Θ,h1,Θ⟩
  .rw[if_neg h1]at h;cases h
theorem jZ{α:Type}{xs:η α}{i:Int}{v:α}(h:atI xs i=ς v):∃j,ze1 i xs.length=ς j/\xs[j]?=ς v/\j<xs.length/\-(xs.length:Int)<=i/\i<xs.length:=by
 unfold atI at h;cases e:ixN xs.length i with
 |none=>rw[e]at h;cases h
 |some j=>rw[e]at h;have⟨h1,h2,O,h4⟩:=ox e;exact⟨j,h1,h,h2,O,h4⟩
theorem wF{α:Type}{xs:η α}{v:α}(h:xs[j]?=ς v):atI xs (j:Int)=ς v:=by
 have O:j<xs.length:=(gX h).1
 have e:ixN xs.length (j:Int)=ς j:=by unfold ixN;rw[if_pos Θ,if_pos Θ];simp
 unfold atI;rw[e];exact h
def j0(b:J8):Prop:=∀o i,subscripted b ξ o i=operate [o,i] (zg0 o i)
def IxR(X:Cx)(r:R2):Prop:=
 ∀(value O:J8)(J0:η (J4×Obj))(s:qa8)(σ:St)(H:Hp)(x y:V)(v u:Value)(Q:VK),Inv X J0 σ H s->RelV x v->RelV y u->r x y H Q→
  subscripted O ξ v u=operate [v,u] (zg0 v u)->wpAny (model X.prog X.w) X.A (ze0 value O v u) (EP X J0 σ Q) X.xe s
def MtR(X:Cx)(id:String)(r:V->η V->Hp->VK->Prop):Prop:=
 ∀(J0:η (J4×Obj))(s:qa8)(σ:St)(H:Hp)(x:V)(xs:η V)(v:Value)(us:η Value)(Q:VK),Inv X J0 σ H s->RelV x v->Vals xs us->r x xs H Q→
  wpAny (model X.prog X.w) X.A (call (.builtin id) (v::us)) (EP X J0 σ Q) X.xe s
variable{J0:η (J4×Obj)}{σ:St}{H:Hp}{J3 its':η Value}{A:ql0}{y:V}{u:Value}
section
variable{X:Cx}{a b:J8}{ta tb:TE}{pos:Pos}
theorem IxR.or{r U:R2}(h:IxR X r)(h':IxR X U):IxR X (λx y H Q=>r x y H Q\/U x y H Q):=by
 intro value O J0 s σ H x y v u Q I Y W q hs;rcases q with q|q
 .exact h value O J0 s σ H x y v u Q I Y W q hs
 .exact h' value O J0 s σ H x y v u Q I Y W q hs
theorem Du{r:R2}(hr:IxR X r)(O:PE X a ta)(hb:PE X b tb)(hs:j0 b):PE X (.Subscript a b pos) (tOp r ta tb):=by intro J0 s σ H Q I h;exact Subscript_ (Ag O hb I h λv u Z x y H2 W Y U q=>hr a b J0 Z σ H2 x y v u Q W Y U q (hs _ _))
def rIxL(K:xA9):R2:=λx y H Q=>∃p xs i v,x=.ref p/\y=.int i/\SqL K H p xs/\atI xs i=ς v/\Q v H
def rIxT(K:xA9):R2:=λx y H Q=>∃p xs i v,x=.ref p/\y=.int i/\SqT K H p xs/\atI xs i=ς v/\Q v H
def rIxS:R2:=λx y H Q=>∃z i c,x=.str z/\y=.int i/\z.length<=qa5/\atI z.cps.toList i=ς c/\Q (.str ⟨#[c]⟩) H
theorem ix_list:IxR X (rIxL X.K):=by
 intro value slice J0 s σ H x y v u Q I rx ry h hs;have⟨p,xs,i,z,rfl,rfl,hq,he,q⟩:=h;cases rx;have⟨t,rfl⟩:=ry;have⟨J3,r,pl,hz⟩:=I.list hq;have⟨j,h1,h2,h3,h4,h5⟩:=jZ he;have⟨w,ew,rw'⟩:=r.get h2;have hl:=r.length;have hn:=fw;have fin:EP X J0 σ Q w s:=⟨z,H,I,rw',q⟩;by_cases h0:0<=i
 .have hj:i.toNat=j:=by rw[seqIndex_of h0 h5]at h1;exact qd5 h1
  exact item_listR pl.isList h0 Θ (by rw[hj];simpa using ew) fin hs
 .have hj:(i+(J3.toArray.size:Int)).toNat=j:=by rw[zf2 Θ h4]at h1;rw[qb5,<- hl];exact qd5 h1
  exact za2 (x:=w) pl.isList.typeIs slot_list_getitem.lookup
   (wpAny_getItem_list_neg (Q:=λr s'=>r=w/\EP X J0 σ Q r s') pl.isList Θ (by rw[qb5]<;>lia) Θ (by rw[hj];simpa using ew) ⟨rfl,fin⟩) hs
theorem ix_tup:IxR X (rIxT X.K):=by
 intro value slice J0 s σ H x y v u Q I rx ry h hs;have⟨p,xs,i,z,rfl,rfl,hq,he,q⟩:=h;cases rx;have⟨t,rfl⟩:=ry;have⟨J3,r,pl,hz⟩:=I.tuple hq;have⟨j,h1,h2,h3,h4,h5⟩:=jZ he;have⟨w,ew,rw'⟩:=r.get h2;have hl:=r.length;have hn:=fw;have fin:EP X J0 σ Q w s:=⟨z,H,I,rw',q⟩
 exact za2 (x:=w) pl.typeIs slot_tuple_getitem.lookup
  (getItem_tuple (j:=j) (Q:=λr s'=>r=w/\EP X J0 σ Q r s') pl Θ Θ (by rw[qb5,<- hl];exact h1) ‹ew› ⟨rfl,fin⟩) hs
theorem AD:IxR X rIxS:=by
 intro value slice J0 s σ H x y v u Q I rx ry h hs;have⟨z,i,c,rfl,rfl,hz,he,q⟩:=h;have⟨t,rfl⟩:=rx;have⟨t',rfl⟩:=ry;have⟨j,h1,h2,h3,h4,h5⟩:=jZ he;have hl:z.cps.toList.length=z.length:=by simp[Str.length]
 rw[hl]at h1 h4 h5;have hn:=fw
 exact tail_any (typeIs_str s z t) slot_str_getitem.lookup (getItem_str (c:=c) (by have e1:decide (i < -(2^63:Int))=ξ:=decide_eq_false Θ;have e2:decide (i ≥ 2^63)=ξ:=decide_eq_false Θ;rw[e1,e2,Bool.or_false]) (by rw[h1];simpa using h2) ⟨.str ⟨#[c]⟩,H,I.tok _,⟨_,rfl⟩,q⟩) hs
def rIx(K:xA9):R2:=λx y H Q=>rIxL K x y H Q\/rIxT K x y H Q\/rIxS x y H Q
theorem AE:IxR X (rIx X.K):=ix_list.or (ix_tup.or AD)
theorem mU(J3:η Value)(n j:Nat)(u:Value):qk4 (·.setIfInBounds j u) {cls:=.type "list",data:=.seq J3.toArray n}={cls:=.type "list",data:=.seq (J3.set j u).toArray n}:=by simp[qk4]
theorem Inv.lst {s:qa8} {p:J4} (I:Inv X J0 σ H s) (h:H p=ς (.e xs)) :
  ∃(J3:η Value)(n:Nat),Vals xs J3/\s.heap.get? p=ς {cls:=.type "list",data:=.seq J3.toArray n}/\xs.length<=qa5:=by
 have⟨z,J3,n,r,e⟩:=I.hok p _ h;exact⟨J3,n,r,e,z⟩
theorem Inv.lstUpd{s:qa8}{p:J4}{ys:η V}{n n':Nat}{f:Obj->Obj}(I:Inv X J0 σ H s)(h:H p=ς (.e xs))
 (O:s.heap.get? p=ς {cls:=.type "list",data:=.seq J3.toArray n}) (hf:f {cls:=.type "list",data:=.seq J3.toArray n}={cls:=.type "list",data:=.seq its'.toArray n'}) (r:Vals ys its') (hz:ys.length<=qa5) (t:Nat) :
  Inv X J0 σ (upd H p (.e ys)) {s with heap:=s.heap.update p f,toks:=t}:=by
 have e:(s.heap.update p f).get? p=ς {cls:=.type "list",data:=.seq its'.toArray n'}:=by rw[qf7 f O (by rw[hf]<;>rfl),hf]
 refine I.write (x:=p) (e:=p) (by rw[h];trivial) (.inl rfl) (λb u hb q=>(qi1 _ _ (qj7 hb)).trans q) ⟨_,e⟩ ?_;exact⟨hz,its',n',r,e⟩
def yR:V->V->V->Hp->(Hp->Prop)->Prop:=λo i v H Q=>∃p xs k j,o=.ref p/\i=.int k/\H p=ς (.e xs)/\ixN xs.length k=ς j/\Q (upd H p (.e (xs.set j v)))
theorem sj:PSet X yR:=by
 intro J0 s σ H o i v ov iv u Q I ro ri rv h;have⟨p,xs,k,j,rfl,rfl,hp,hj,q⟩:=h;cases ro;have⟨t,rfl⟩:=ri;have⟨J3,n,r,ho,hz⟩:=I.lst hp;have⟨h1,h2,h3,h4⟩:=ox hj;have hl:=r.length;have hn:=fw
 have I':Inv X J0 σ (upd H p (.e (xs.set j v))) {s with heap:=s.heap.update p (qk4 (·.setIfInBounds j u))}:=I.lstUpd hp ho (mU J3 n j u) (r.set rv j) (by rw[List.length_set];exact hz) s.toks
 by_cases h0:0<=k
 .have hk:k.toNat=j:=by rw[seqIndex_of h0 h4]at h1;exact qd5 h1
  exact PySem.W.ki_setAt ho h0 Θ (by rw[qb5,<- hl];exact h4) (by rw[hk];exact⟨_,I',q⟩)
 .have hk:(k+(J3.toArray.size:Int)).toNat=j:=by rw[zf2 Θ h3]at h1;rw[qb5,<- hl];exact qd5 h1
  exact PySem.W.ki_setBack ho Θ (by rw[qb5,<- hl];exact h3) Θ (by rw[hk];exact⟨_,I',q⟩)
theorem j2(lo hi:ζ Int)(n:Nat):(qs8 lo hi ψ n).1=((HT.sIx n 0 lo:Nat):Int)/\(qs8 lo hi ψ n).2.1=((HT.sIx n n hi:Nat):Int)/\(qs8 lo hi ψ n).2.2=1:=by
 refine⟨?_,?_,rfl⟩
 .cases lo with
  |none=>simp[qs8,HT.sIx]
  |some i=>
   rwa[qs8,HT.sIx,qz6,show(1:Int) > 0 by decide,if_true];by_cases h:i<0
   .rwa[h,if_true]<;>lia
   .rwa[h,if_false]<;>lia
 .cases hi with
  |none=>simp[qs8,HT.sIx]
  |some i=>
   rwa[qs8,HT.sIx,qz6,show(1:Int) > 0 by decide,if_true];by_cases h:i<0
   .rwa[h,if_true]<;>lia
   .rwa[h,if_false]<;>lia
theorem iU(J3:η Value)(lo hi:ζ Int):slicePick J3.toArray lo hi ψ=((J3.drop (HT.sIx J3.length 0 lo)).take (HT.sIx J3.length J3.length hi-HT.sIx J3.length 0 lo)).toArray:=by have⟨h1,h2,O⟩:=j2 lo hi J3.toArray.size;unfold slicePick;rw[h1,h2,O];rwa[sliceRange_one,pick_run,qb5]<;>rfl
def rSlL(K:xA9):V->ζ Int->ζ Int->Hp->VK->Prop:=λx lo hi H Q=>∃a xs,x=.ref a/\SqL K H a xs/\∀p,H p=ψ->Q (.ref p) (upd H p (.e (lw xs lo hi)))
theorem wG:SlR X (rSlL X.K):=by intro J0 s σ H x v vl vu lo hi sl Q I Z hs pl Y h;have⟨a,xs,rfl,W,q⟩:=h;cases Z;have⟨J3,r,U,hz⟩:=I.list W;have O:=r.length;refine⟨"list",_,slot_list_getitem.lookup,U.isList.typeIs,?_⟩;refine wpAny_getItem_list_slice U.isList hs pl Y .none Ξ ?_ (by rw[qb5]<;>lia);rw[iU,<- O];refine⟨.ref s.heap.objs.size,_,I.laid (t':=s.toks) (o:=.e (lw xs lo hi)) (λb ob q=>gP _ q) (nL _) ?_,rfl,q _ (I.hok.fresh (nL _))⟩;exact⟨qd7 (f9 xs lo hi) hz,_,0,(r.drop (HT.sIx xs.length 0 lo)).take (HT.sIx xs.length xs.length hi-HT.sIx xs.length 0 lo),qc0 _ rfl⟩
noncomputable def dE:V->Bool
 |.non=>θ
 |.bl _=>θ
 |.int _=>θ
 |.str _=>θ
 |_=>ξ
noncomputable def eqV:V->V->Bool
 |.non,.non=>θ
 |.bl a,.bl b=>a==b
 |.bl a,.int b=>(if a then 1 else 0)==b
 |.int a,.bl b=>a==(if b then 1 else 0)
 |.int a,.int b=>a==b
 |.str a,.str b=>a==b
 |_,_=>ξ
theorem fG{s:qa8}{x:V}{v:Value}(U:RelV y u)(O:RelV x v)(W:dE y=θ)(fx:dE x=θ):qf1 A s u v (eqV y x):=by
 cases y with
 |non=>
  cases U;cases x with
  |non=>cases O;exact zb6 _
  |bl b=>cases O;exact qf1.none_bool b
  |int b=>have⟨t,rfl⟩:=O;exact qf1.none_int b t
  |str b=>have⟨t,rfl⟩:=O;exact qf1.none_str b t
  |_=>exact absurd (show ξ=θ from fx) qb6
 |bl a=>
  cases U;cases x with
  |non=>cases O;exact qf1.bool_none a
  |bl b=>cases O;exact qf1.bool_bool a b
  |int b=>have⟨t,rfl⟩:=O;exact qf1.bool_int a b t
  |str b=>have⟨t,rfl⟩:=O;exact qf1.bool_str a b t
  |_=>exact absurd (show ξ=θ from fx) qb6
 |int a=>
  have⟨t',rfl⟩:=U;cases x with
  |non=>cases O;exact qf1.int_none a t'
  |bl b=>cases O;exact qf1.int_bool a t' b
  |int b=>have⟨t,rfl⟩:=O;exact qf1.int_int a t' b t
  |str b=>have⟨t,rfl⟩:=O;exact qf1.int_str a t' b t
  |_=>exact absurd (show ξ=θ from fx) qb6
 |str a=>
  have⟨t',rfl⟩:=U;cases x with
  |non=>cases O;exact qf1.str_none a t'
  |bl b=>cases O;exact qf1.str_bool a t' b
  |int b=>have⟨t,rfl⟩:=O;exact qf1.str_int a t' b t
  |str b=>have⟨t,rfl⟩:=O;exact qf1.str_str a t' b t
  |_=>exact absurd (show ξ=θ from fx) qb6
 |_=>exact absurd (show ξ=θ from W) qb6
def eqU(x:V)(u:Value):Bool:=match u with
 |.none=>eqV .non x
 |.bool b=>eqV (.bl b) x
 |.int i _=>eqV (.int i) x
 |.str z _=>eqV (.str z) x
 |_=>ξ
theorem so{x:V}(r:RelV y u)(f:dE y=θ):eqU x u=eqV y x:=by
 cases y with
 |non=>cases r;rfl
 |bl b=>cases r;rfl
 |int i=>have⟨t,rfl⟩:=r;rfl
 |str z=>have⟨t,rfl⟩:=r;rfl
 |_=>exact absurd (show ξ=θ from f) qb6
theorem et{x:V}:∀{xs:η V}{us:η Value},Vals xs us->xs.all dE=θ->us.any (eqU x)=xs.any λy=>eqV y x
 |_,_,.nil,_=>rfl
 |y::xs,u::us,.cons r t,f=>by rw[qd4,qa1]at f;rw[ql2,ql2,so r f.1,et t f.2]
theorem cQ{s:qa8}{x:V}{v:Value}(U:RelV x v)(fx:dE x=θ):∀{xs:η V}{us:η Value},Vals xs us->xs.all dE=θ->∀u∈us,qf1 A s u v (eqU x u)
 |_,_,.nil,_=>λu O=>by cases O
 |y::xs,u::us,.cons r t,f=>λW O=>by
  rw[qd4,qa1]at f;rcases qb9.mp O with rfl|O
  .rw[so r f.1];exact fG r U f.1 fx
  .exact cQ U fx t f.2 W O
def inV(x:V)(xs:η V):Bool:=xs.any λy=>eqV y x
def rIn(K:xA9)(O:Bool):R2:=λx y H Q=>∃p xs,y=.ref p/\(SqL K H p xs\/SqT K H p xs)/\dE x=θ/\xs.all dE=θ/\Q (.bl (if O then !inV x xs else inV x xs)) H
theorem qd:OpR X (qe7 .In) (rIn X.K ξ):=by
 intro J0 s σ H x y v u Q I W Y h;have⟨p,xs,rfl,O,fx,fs,q⟩:=h;cases Y;rcases O with O|O
 .have⟨J3,r,pl,hz⟩:=I.list O;refine SeqAt.in_listAt (eqU x) pl.isList (λw U=>cQ W fx r fs w ‹U›) ⟨.bl _,H,I,rfl,?_⟩;rw[show J3.toArray.any (eqU x)=J3.any (eqU x)by simp,et r fs];exact q
 .have⟨J3,r,pl,hz⟩:=I.tuple O;refine SeqAt.in_tupleAt (eqU x) pl (λw U=>cQ W fx r fs w ‹U›) ⟨.bl _,H,I,rfl,?_⟩;rw[show J3.toArray.any (eqU x)=J3.any (eqU x)by simp,et r fs];exact q
theorem j3:OpR X (qe7 .NotIn) (rIn X.K θ):=by
 intro J0 s σ H x y v u Q I W Y h;have⟨p,xs,rfl,O,fx,fs,q⟩:=h;cases Y;rcases O with O|O
 .have⟨J3,r,pl,hz⟩:=I.list O;refine SeqAt.notIn_listAt (eqU x) pl.isList (λw U=>cQ W fx r fs w ‹U›) ⟨.bl _,H,I,rfl,?_⟩;rw[show J3.toArray.any (eqU x)=J3.any (eqU x)by simp,et r fs];exact q
 .have⟨J3,r,pl,hz⟩:=I.tuple O;refine SeqAt.notIn_tupleAt (eqU x) pl (λw U=>cQ W fx r fs w ‹U›) ⟨.bl _,H,I,rfl,?_⟩;rw[show J3.toArray.any (eqU x)=J3.any (eqU x)by simp,et r fs];exact q
theorem j4:OpR X (qe7 .NotIn) (λx y H Q=>∃i j,x=.str i/\y=.str j/\Q (.bl (!(!(qr8 j i 0 j.length 1).isEmpty))) H):=by intro J0 s σ H x y v u Q I U O h;have⟨i,j,rfl,rfl,q⟩:=h;have⟨t,rfl⟩:=U;have⟨t',rfl⟩:=O;exact notIn_str ⟨.bl _,H,I,rfl,q⟩
theorem j6:bR X (.type "list") (λxs H Q=>∃p ys,xs=[.ref p]/\(SqL X.K H p ys\/SqT X.K H p ys)/\∀l,H l=ψ->Q (.ref l) (upd H l (.e ys))):=by
 intro J0 s σ H xs us Q I r h;have⟨p,ys,rfl,Y,q⟩:=h;have⟨u,rfl,rx⟩:=gZ r;cases rx
 have fin:∀ (J3:η Value),Vals ys J3->ys.length<=qa5->∀ (h':Heap) (U:Nat),(∀ b o',s.heap.get? b=ς o'->h'.get? b=ς o')→
     h'.get? s.heap.objs.size=ς {cls:=.type "list",dict:=ψ,data:=.seq J3.toArray U,slots:=#[]}->EP X J0 σ Q (.ref s.heap.objs.size) {s with heap:=h'}:=λJ3 O hz h' U kp e=>
  ⟨.ref s.heap.objs.size,_,I.laid (t':=s.toks) kp (nL _) (show ObjOk X.prog X.w _ h' _ (.e ys)from⟨hz,J3,U,O,e⟩),rfl,q _ (I.hok.fresh (nL _))⟩
 rcases Y with Y|Y
 .have⟨J3,O,pl,hz⟩:=I.list Y;have W:=O.length;have⟨o,ho,hc,n,Z⟩:=pl.isList;exact call_list_seq p (.inl rfl) ho hc Z (λh' U kp e=>fin J3 O hz h' U kp e) (by rwa[qb5]<;>lia)
 .have⟨J3,O,pl,hz⟩:=I.tuple Y;have W:=O.length;have⟨o,ho,hc,n,Z⟩:=pl;exact call_list_seq p (.inr rfl) ho hc Z (λh' U kp e=>fin J3 O hz h' U kp e) (by rwa[qb5]<;>lia)
theorem iV:bR X (.type "tuple") (λxs H Q=>∃p ys,xs=[.ref p]/\((SqL X.K H p ys/\∀l,H l=ψ->Q (.ref l) (upd H l (.t ys)))\/(SqT X.K H p ys/\Q (.ref p) H))):=by
 intro J0 s σ H xs us Q I r h;have⟨p,ys,rfl,h⟩:=h;have⟨u,rfl,rx⟩:=gZ r;cases rx;rcases h with ⟨U,q⟩|⟨U,q⟩
 .have⟨J3,O,pl,hz⟩:=I.list U;have Y:=O.length;refine call_tuple_list pl.isList (λh' kp=>?_) (by rwa[qb5]<;>lia);have W:Inv X J0 σ H {s with heap:=h'}:=I.kept (t':=s.toks) kp
  have Z:Inv X J0 σ (upd H h'.objs.size (.t ys)) {s with heap:=h'.push {cls:=.type "tuple",data:=.seq J3.toArray}}:=W.laid (t':=s.toks) (λb o e=>gP _ e) (nL _) (show ObjOk X.prog X.w _ _ _ (.t ys)from⟨hz,J3,O,IsTu.new _ _⟩)
  exact⟨.ref h'.objs.size,_,Z,rfl,q _ (W.hok.fresh (nL _))⟩
 .have⟨J3,O,pl,hz⟩:=I.tuple U;exact call_tuple_same pl ⟨.ref p,H,I,rfl,q⟩
def tyV(K:xA9)(T:String)(x:V)(H:Hp):Prop:=match x with
 |.str _=>T="str"
 |.int _=>T="int"
 |.ref p=>(T="list"/\∃xs,SqL K H p xs)\/(T="tuple"/\∃o,K.lookup p=ς o/\o.cls=.type "tuple"/\o.dict=ψ)\/(T="dict"/\((∃J1,H p=ς (.dK J1))\/∃J1,H p=ς (.dT J1)))\/(T="set"/\∃S n,H p=ς (.set S n))
 |_=>False
theorem sr {s:qa8} {T:String} {x:V} {v:Value} (I:Inv X J0 σ H s) (r:RelV x v) (ty:tyV X.K T x H) :
  s.TypeIs v T/\∀a,v=.ref a->∃ob,s.heap.get? a=ς ob/\ob.dict=ψ:=by
 cases x with
 |str z=>have⟨t,rfl⟩:=r;cases (show T="str" from ty);exact⟨typeIs_str s z t,λ_ e=>nomatch e⟩
 |int i=>have⟨t,rfl⟩:=r;cases (show T="int" from ty);exact⟨typeIs_int s i t,λ_ e=>nomatch e⟩
 |ref p=>
  cases r;rcases ty with ⟨rfl,xs,W⟩|⟨rfl,o,O,hc,U⟩|⟨rfl,O⟩|⟨rfl,S,n,O⟩
  .have⟨J3,_,pl,_⟩:=I.list W;refine⟨pl.isList.typeIs,λa e=>?_⟩;cases e;have⟨o,n,e,c,U,_⟩:=pl;exact⟨o,e,U⟩
  .refine⟨⟨o,I.kIn p o O,hc⟩,λa e=>?_⟩;cases e;exact⟨o,I.kIn _ o O,U⟩
  .have z:∃o,s.heap.get? p=ς o/\o.ExactDict:=by
    rcases O with ⟨J1,O⟩|⟨J1,O⟩
    .have⟨_,_,_,_,o,_,_,e,ex,_⟩:=I.hok p _ O;exact⟨o,e,ex⟩
    .have⟨_,_,_,_,o,_,_,e,ex,_⟩:=I.hok p _ O;exact⟨o,e,ex⟩
   have⟨o,e,ex⟩:=z;refine⟨⟨o,e,ex.1⟩,λa e2=>?_⟩;cases e2;exact⟨o,e,ex.2.1⟩
  .have⟨o,_,_,_,e,ex,_⟩:=I.hok p _ O;refine⟨⟨o,e,ex.1⟩,λa e2=>?_⟩;cases e2;exact⟨o,e,ex.2.1⟩
 |_=>exact qk2 ty
def tBM0(K:xA9)(T:String)(r:V->η V->Hp->VK->Prop)(to:TE):TE:=λσ H Q=>to σ H λx H1=>tyV K T x H1/\r x [] H1 Q
def tBM(K:xA9)(T:String)(r:V->η V->Hp->VK->Prop)(to:TE)(t:TA):TE:=λσ H Q=>to σ H λx H1=>tyV K T x H1/\t σ H1 λxs H2=>r x xs H2 Q
variable{o e:J8}{es:η J8}{to:TE}{t:TA}{name:Str}{apos cpos:Pos}{T id:String}{r:V->η V->Hp->VK->Prop}
theorem j7 (pa:PlainAttrs T) (Y:Slot T name id) (Z:typeOf (.builtin id)=pure (.type "method_descriptor")) (hm:MtR X id r) (ho:PE X o to)
  (O:qh8 o name X.env (eval o X.env)=eval o X.env:=by rfl) (U:(apos.endLine==cpos.line)=θ:=by rfl):PE X (.Call (.Attribute o name apos) [] [] cpos) (tBM0 X.K T r to):=by
 intro J0 s σ H Q I h;refine wpAny_Call_method0_late O U (thn (ho J0 s σ H _ I h) λv s1 W=>?_);have⟨x,H1,I1,r1,ty,q1⟩:=W;have⟨h1,h2⟩:=sr I1 r1 ty;exact⟨T,id,pa,Y,Z,h1,h2,qs3 rfl (PySem.evalArgs_none (hm J0 s1 σ H1 x [] v [] Q I1 r1 .nil q1))⟩
theorem lx (pa:PlainAttrs T) (Y:Slot T name id) (hty:typeOf (.builtin id)=pure (.type "method_descriptor")) (hm:MtR X id r) (ho:PE X o to) (ha:PABq X (e::es) t)
  (U:qh8 o name X.env (eval o X.env)=eval o X.env:=by rfl)
  (Z:((qh6 cpos (qb3 (e::es) X.env)).all (λx=>!x.1)&&(qo6 cpos (qi3 [] X.env)).all (λx=>x.1.isSome)
   && decide ((e::es).length+([]:η qw8).length+(if([]:η qw8).isEmpty then 0 else 1)<30))=θ:=by rfl)
  (W:(apos.endLine==cpos.line)=θ:=by rfl) (hs:qb3 (e::es) X.env=(ξ,eval e X.env)::qb3 es X.env:=by rfl) (O:(qh6 cpos (qb3 es X.env)).any (·.1)=ξ:=by rfl) :
  PE X (.Call (.Attribute o name apos) (e::es) [] cpos) (tBM X.K T r to t):=by
 intro J0 s σ H Q I h;refine wpAny_Call_method_late U Z W rfl (thn (ho J0 s σ H _ I h) λv s1 hq89=>?_);have⟨x,H1,I1,r1,ty,q1⟩:=hq89;have⟨h1,h2⟩:=sr I1 r1 ty;refine⟨T,id,pa,Y,hty,h1,h2,?_⟩;have hA:=ha cpos J0 s1 σ H1 _ I1 q1;rw[hs]at hA ⊢;refine qs3 (by show(ξ||(qh6 cpos (qb3 es X.env)).any (·.1))=ξ;rw[O]<;>rfl) (Calls.evalArgs_plain ?_);exact thn hA λus s2 hq90=>by have⟨vs,H2,I2,r2,q2⟩:=hq90;exact hm J0 s2 σ H2 x vs v us Q I2 r1 r2 q2
end
def MtM(X:Cx)(id:String)(r:V->η V->Hp->VK->Prop):Prop:=
 ∀(J0:η (J4×Obj))(s:qa8)(σ:St)(H:Hp)(x:V)(xs:η V)(v:Value)(us:η Value)(Q:VK),Inv X J0 σ H s->RelV x v->Vals xs us->r x xs H Q→
  wpAny (model X.prog X.w) X.A (call (.builtin id) (v::us)) (EP X J0 σ Q) X.xe s
theorem Vals.one:∀{x:V}{us:η Value},Vals [x] us->∃u,us=[u]/\RelV x u
 |_,_,.cons r .nil=>⟨_,rfl,r⟩
theorem Vals.zero:∀{us:η Value},Vals [] us->us=[]
 |_,.nil=>rfl
theorem Vals.eraseIdx:∀{xs:η V}{us:η Value}(i:Nat),Vals xs us->Vals (xs.eraseIdx i) (us.eraseIdx i)
 |_,_,_,.nil=>.nil
 |_,_,0,.cons _ t=>t
 |_,_,i+1,.cons r t=>.cons r (Vals.eraseIdx i t)
theorem Vals.rep(h:Vals xs us):∀k:Nat,Vals (qb0 k xs).flatten (qb0 k us).flatten
 |0=>.nil
 |k+1=>by rw[qf8,qf8,qk5,qk5];exact Vals.append h (Vals.rep h k)
theorem jk{α:Type}:∀(l:η α)(i:Nat),(l.eraseIdx i).length<=l.length
 |[],_=>nL _
 |_::_,0=>qn0 _
 |_::r,i+1=>qp5 (jk r i)
theorem jl (J3:η Value):∀ (k:Nat) (O:η Value),
  zc8 (λU W=>U++W) O.toArray (qb0 k J3.toArray)=(O++(qb0 k J3).flatten).toArray
 |0,O=>by simp
 |k+1,O=>by
  have e:O.toArray++J3.toArray=(O++J3).toArray:=by simp
  have e2:(O++J3)++(qb0 k J3).flatten=O++(qb0 (k+1) J3).flatten:=by rw[qf8,qk5,qd8]
  rw[<- e2,<- jl J3 k (O++J3),<- e,qf8,qs0]
variable{t':Nat}
section
variable{X:Cx}{J0:η (J4×Obj)}{σ:St}{H:Hp}{s:qa8}{l b:J4}{xs ys zs:η V}
theorem Inv.lset{n:Nat}{f:Array Value->Array Value}(I:Inv X J0 σ H s)(W:H l=ς (.e xs))
 (e:s.heap.get? l=ς {cls:=.type "list",data:=.seq J3.toArray n}) (hf:f J3.toArray=its'.toArray) (U:Vals ys its') (hz:ys.length<=qa5) :
  Inv X J0 σ (upd H l (.e ys)) {s with heap:=s.heap.update l (qk4 f),toks:=t'}:=by
 have q:=PySem.IsL.update e f;rw[hf]at q;refine I.write (x:=l) (e:=l) (by rw[W];exact trivial) (.inl rfl) (λb' u hb O=>(qi1 s.heap (qk4 f) (qj7 hb)).trans O) ⟨_,q⟩ ?_;exact⟨hz,its',_,U,q⟩
theorem Inv.lnew (I:Inv X J0 σ H s) (O:Vals ys J3) (hz:ys.length<=qa5) :
  Inv X J0 σ (upd H s.heap.objs.size (.e ys)) {s with heap:=s.heap.push {cls:=.type "list",data:=.seq J3.toArray},toks:=t'}:=
 I.laid (λ_ _ q=>gP _ q) (nL _) ⟨hz,J3,0,O,qc0 _ rfl⟩
theorem Inv.fresh(I:Inv X J0 σ H s):H s.heap.objs.size=ψ:=I.hok.fresh (nL _)
theorem Inv.lstM(I:Inv X J0 σ H s)(O:H l=ς (.e xs)):xs.length<=qa5/\∃(J3:η Value)(n:Nat),Vals xs J3/\xs.length=J3.length/\s.heap.get? l=ς {cls:=.type "list",data:=.seq J3.toArray n}:=by have⟨z,J3,n,r,e⟩:=I.hok l _ O;exact⟨z,J3,n,r,r.length,e⟩
theorem su{n:Nat}(h:n<=qa5):qr0 n=ξ:=by unfold qr0;exact decide_eq_false Θ
end
section
variable{X:Cx}
def wH:V->η V->Hp->VK->Prop:=λx vs H Q=>∃l xs y,x=.ref l/\vs=[y]/\H l=ς (.e xs)/\xs.length<qa5/\Q .non (upd H l (.e (xs++[y])))
theorem fH:MtM X "list.append" wH:=by intro J0 s σ H x vs v us Q I W Y h;have⟨l,xs,y,rfl,rfl,O,hz,q⟩:=h;cases W;have⟨u,rfl,U⟩:=Y.one;have⟨z,J3,n,r,hl,e⟩:=I.lstM O;refine qu8 F.slot_list_append ⟨_,e,rfl⟩ F.entry_list_append (F.args_list_append_2 _ _) (PySem.list_append l J3.toArray n u (by rw[qb5];lia)) ⟨e,?_⟩;refine⟨.non,_,I.lset (its':=J3++[u]) O e Ξ (r.append (.cons U .nil)) ?_,rfl,q⟩;rw[qc4,qi7];lia
def AF:V->η V->Hp->VK->Prop:=λx vs H Q=>∃l xs i k y,x=.ref l/\vs=[.int i]/\H l=ς (.e xs)/\-(2^63)<=i/\i<2^63/\ze1 i xs.length=ς k/\xs[k]?=ς y/\Q y (upd H l (.e (xs.eraseIdx k)))
theorem sw:MtM X "list.pop" AF:=by
 intro J0 s σ H x vs v us Q I rx rv h;have⟨l,xs,i,k,y,rfl,rfl,U,h1,h2,W,hy,q⟩:=h;cases rx;have⟨u,rfl,Z⟩:=rv.one;have⟨t,rfl⟩:=Z;have⟨z,J3,n,r,hl,e⟩:=I.lstM U;have⟨w,Y,O⟩:=r.get hy
 refine qu8 F.slot_list_pop ⟨_,e,rfl⟩ F.entry_list_pop (F.args_list_pop_2 _ _)
  (MeetsSeq.list_pop_at l J3.toArray n i t k w (fitsIndex_both h1 h2) (by rw[qb5,<- hl];exact W) (by rw[<- zb7];exact Y) (by rw[qb5];lia)) ⟨e,?_⟩
 refine⟨y,_,I.lset (its':=J3.eraseIdx k) U e ?_ (r.eraseIdx k) ?_,O,q⟩
 .show J3.toArray.eraseIdxIfInBounds k=(J3.eraseIdx k).toArray;rw[List.eraseIdxIfInBounds_toArray]
 .have:=jk xs k;lia
def AG:V->η V->Hp->VK->Prop:=λx vs H Q=>∃l xs,x=.ref l/\vs=[]/\H l=ς (.e xs)/\Q .non (upd H l (.e []))
theorem ly:MtM X "list.clear" AG:=by intro J0 s σ H x vs v us Q I W Y h;have⟨l,xs,rfl,rfl,U,q⟩:=h;cases W;have O:=Y.zero;subst O;have⟨z,J3,n,r,hl,e⟩:=I.lstM U;refine qu8 F.slot_list_clear ⟨_,e,rfl⟩ F.entry_list_clear (F.args_list_clear_1 _) (AutoSeq1.list_clear_list_0 l J3.toArray n (by rw[qb5];lia)) ⟨e,?_⟩;exact⟨.non,_,I.lset (its':=[]) (ys:=[]) U e rfl .nil (qg4 _),rfl,q⟩
theorem oy{α:Type}(xs:η α)(k:Nat):(qb0 k xs).flatten.length=k*xs.length:=by
 induction k with
 |zero=>simp
 |succ k O=>rw[qf8,qk5,qc4,O,Nat.succ_mul,zf3]
end
section
variable{κ:Type}[DecidableEq κ]
noncomputable def bA(J1:η (κ×V))(k:κ):ζ V:=(J1.find? λkv=>decide (kv.1=k)).map (·.2)
noncomputable def aw(J1:η (κ×V))(k:κ)(v:V):η (κ×V):=if(J1.any λkv=>decide (kv.1=k))=θ then J1.map (λkv=>if kv.1=k then(kv.1,v)else kv)else J1++[(k,v)]
theorem eu{p:κ×V}{r:η (κ×V)}{k:κ}(e:p.1=k):bA (p::r) k=ς p.2:=by simp[bA,qk7,e]
theorem cR{p:κ×V}{r:η (κ×V)}{k:κ}(e:¬ p.1=k):bA (p::r) k=bA r k:=by simp[bA,qk7,e]
theorem eC(k:κ):∀J1:η (κ×V),(J1.any λkv=>decide (kv.1=k))=(bA J1 k).isSome
 |[]=>rfl
 |p::r=>by
  rw[ql2];by_cases e:p.1=k
  .rwa[eu e,decide_eq_true e,Bool.true_or,Option.isSome_some]
  .rw[cR e,decide_eq_false e,ze2];exact eC k r
theorem cS(J1:η (κ×V))(k:κ)(v:V):(aw J1 k v).length<=J1.length+1:=by
 unfold aw;split
 .rw[qa2];lia
 .rw[qc4,qc2,qf9];lia
theorem sx{J1:η (κ×V)}{k:κ}(v:V)(h:bA J1 k=ψ):aw J1 k v=J1++[(k,v)]:=by unfold aw;rw[eC,h];exact if_neg Ω
theorem RelO.isSome_eq{o:ζ V}{u:ζ Value}(r:RelO o u):o.isSome=u.isSome:=by
 cases o with
 |none=>cases u with
  |none=>rfl
  |some _=>exact(show False from r).elim
 |some _=>cases u with
  |none=>exact(show False from r).elim
  |some _=>rfl
theorem RelO.getD{o:ζ V}{u:ζ Value}{d:V}{d':Value}(r:RelO o u)(rd:RelV d d'):RelV (o.getD d) (u.getD d'):=by
 cases o with
 |none=>cases u with
  |none=>exact rd
  |some _=>exact(show False from r).elim
 |some _=>cases u with
  |none=>exact(show False from r).elim
  |some _=>exact r
theorem KV.val{J1:η (κ×V)}{vs:η (κ×Value)}(r:KV J1 vs)(k:κ):RelO (bA J1 k) (ze8 vs k):=by
 unfold KV at r;induction r with
 |nil=>exact qk9
 |@cons p q ps U h t W=>
  have⟨h1,h2⟩:=h;by_cases e:p.1=k
  .have O:q.1=k:=h1.symm.trans e;have b:ze8 (q::U) k=ς q.2:=by simp[ze8,qk7,O]
   rw[eu e,b];exact h2
  .have O:¬ q.1=k:=λz=>e (h1.trans z)
   have b:ze8 (q::U) k=ze8 U k:=by simp[ze8,qk7,O]
   rw[cR e,b];exact W
theorem KV.any{J1:η (κ×V)}{vs:η (κ×Value)}(r:KV J1 vs)(k:κ):(J1.any λkv=>decide (kv.1=k))=vs.any λkv=>decide (kv.1=k):=by
 unfold KV at r;induction r with
 |nil=>rfl
 |cons h t O=>rw[ql2,ql2,O,h.1]
theorem KV.repl {J1:η (κ×V)} {vs:η (κ×Value)} (r:KV J1 vs) (k:κ) (O:RelV y u) :
  KV (J1.map λkv=>if kv.1=k then(kv.1,y)else kv) (vs.map λkv=>if kv.1=k then(kv.1,u)else kv):=by
 unfold KV at r ⊢;induction r with
 |nil=>exact .nil
 |@cons p q ps W h t U=>
  rw[qa3,qa3];refine .cons ?_ U;have⟨h1,h2⟩:=h;by_cases e:p.1=k
  .rw[if_pos e,if_pos (h1.symm.trans e)];exact⟨h1,O⟩
  .rw[if_neg e,if_neg (λz=>e (h1.trans z))];exact⟨h1,h2⟩
theorem KV.put{J1:η (κ×V)}{vs:η (κ×Value)}(r:KV J1 vs)(k:κ)(O:RelV y u):KV (aw J1 k y) (stored vs k u):=by
 unfold aw stored;rw[r.any k];by_cases e:(vs.any λkv=>decide (kv.1=k))=θ
 .rw[if_pos e,if_pos e];exact r.repl k O
 .rw[if_neg e,if_neg e];exact Paired.snoc r ⟨rfl,O⟩
theorem KV.length{J1:η (κ×V)}{vs:η (κ×Value)}(r:KV J1 vs):J1.length=vs.length:=Paired.length r
end
variable{P:qe5}
theorem hJ{w:J5}{k:Key}(r:RelV (kV k) u):(ao P w).is k u=θ:=by
 cases k with
 |inl i=>have⟨t,e⟩:=(show ∃t,u=zd5 i t from r);subst e;exact lm P w i t
 |inr x=>have⟨t,e⟩:=(show ∃t,u=zd6 x t from r);subst e;exact lp P w x t
theorem jm{w:J5}:∀{ks:η Key}{us:η Value},Vals (ks.map kV) us->ItemsAre (ao P w) ks us
 |[],_,r=>by rw[qg0]at r;cases r;exact .nil
 |k::ks,_,r=>by
  rw[qa3]at r;cases r with
  |cons h t=>exact .cons (hJ h) (jm t)
abbrev KT(H:Hp):η (η Key×V)->η (η Key×J4×Value)->Prop:=Paired λp q=>p.1=q.1/\H q.2.1=ς (.t (p.1.map kV))/\RelV p.2 q.2.2
variable{J1:η (η Key×V)}
theorem KT.val{xs:η (η Key×J4×Value)}(r:KT H J1 xs)(k:η Key):RelO (bA J1 k) ((atKey xs k).map (·.2)):=by
 induction r with
 |nil=>exact qk9
 |@cons p q ps U h t W=>
  have⟨h1,_,h2⟩:=h;by_cases e:p.1=k
  .have O:q.1=k:=h1.symm.trans e;have b:atKey (q::U) k=ς q.2:=by simp[atKey,qk7,O]
   rw[eu e,b];exact h2
  .have O:¬ q.1=k:=λz=>e (h1.trans z)
   have b:atKey (q::U) k=atKey U k:=by simp[atKey,qk7,O]
   rw[cR e,b];exact W
theorem KT.repl {xs:η (η Key×J4×Value)} (r:KT H J1 xs) (k:η Key) (U:RelV y u) :
  KT H (J1.map λkv=>if kv.1=k then(kv.1,y)else kv) (xs.map (putAt k u)):=by
 induction r with
 |nil=>exact .nil
 |@cons p q ps Y h t W=>
  rw[qa3,qa3];refine .cons ?_ W;have⟨h1,h2,O⟩:=h;unfold putAt;by_cases e:p.1=k
  .rw[if_pos e,if_pos (h1.symm.trans e)];exact⟨h1,h2,U⟩
  .rw[if_neg e,if_neg (λz=>e (h1.trans z))];exact⟨h1,h2,O⟩
theorem KT.put {xs:η (η Key×J4×Value)} (r:KT H J1 xs) (k:η Key) {b:J4} (hb:H b=ς (.t (k.map kV))) (O:RelV y u) :
  KT H (aw J1 k y) (storedH xs k b u):=by
 have e:(J1.any λkv=>decide (kv.1=k))=(atKey xs k).isSome:=by rw[eC,(r.val k).isSome_eq,qx7]
 unfold aw storedH;rw[e];by_cases q:(atKey xs k).isSome=θ
 .rw[if_pos q,if_pos q];exact r.repl k O
 .rw[if_neg q,if_neg q];exact Paired.snoc r ⟨rfl,hb,O⟩
variable{H':Hp}
theorem KT.keeps{xs:η (η Key×J4×Value)}(r:KT H J1 xs)(O:∀b ys,H b=ς (.t ys)->H' b=ς (.t ys)):KT H' J1 xs:=Paired.mapP r λ_ _ z=>⟨z.1,O _ _ z.2.1,z.2.2⟩
section
variable{P:qe5}{w:J5}{H:Hp}{h:Heap}{a:J4}
theorem yS{u:HO}(ok:HOk P w H h)(e:Rd H a u):ObjOk P w H h a u:=e.ok ok
theorem gb{J1:η (Key×V)}(ok:HOk P w H h)(e:Rd H a (.dK J1)):J1.length<=qa5/\(a==qk1)=ξ/\∃vs,KV J1 vs/\h.DictOf (ao P w) a vs:=show ObjOk P w H h a (.dK J1)from yS ok e
theorem yT{J1:η (Key×V)}(ok:HOk P w H h)(e:H a=ς (.dK J1)):J1.length<=qa5/\(a==qk1)=ξ/\∃vs,KV J1 vs/\h.DictOf (ao P w) a vs:=gb ok (.inl e)
theorem fJ{ks:η Key}(ok:HOk P w H h)(e:H a=ς (.t (ks.map kV))):(za8 (ao P w)).is h ks a:=by have⟨_,J3,r,⟨o,h1,h2,n,O⟩,_⟩:=(show ObjOk P w H h a (.t (ks.map kV))from ok a _ e);exact⟨o,J3.toArray,n,h1,h2,O,‹jm r›⟩
theorem hU (ok:HOk P w H h) (e:Rd H a (.dT J1)):J1.length<=qa5/\(a==qk1)=ξ∧
  ∃xs,KT H J1 xs/\h.DictOfH (za8 (ao P w)) a xs:=by
 have⟨z,y,xs,r,o,es,ep,h1,h2,Y,h4,W⟩:=(show ObjOk P w H h a (.dT J1)from yS ok e);refine⟨z,y,xs,r,o,es,ep,h1,h2,Y,h4,λx O=>?_,W⟩
 have all:∀{l:η (η Key×V)}{m:η (η Key×J4×Value)},KT H l m->∀x∈m,(za8 (ao P w)).is h x.1 x.2.1:=by
  intro l m q;induction q with
  |nil=>intro x O;exact nomatch O
  |@cons p q ps qs U t Z=>
   intro x O;rcases qb9.mp O with e|O
   .subst e;exact fJ ok (by rw[<- U.1];exact U.2.1)
   .exact Z x O
 exact all r x O
theorem Dv(ok:HOk P w H h)(e:H a=ς (.dT J1)):J1.length<=qa5/\(a==qk1)=ξ∧∃xs,KT H J1 xs/\h.DictOfH (za8 (ao P w)) a xs:=hU ok (.inl e)
end
def DGet(H:Hp)(a:J4)(y:V)(r:ζ V):Prop:=(∃J1 k,Rd H a (.dK J1)/\y=kV k/\r=bA J1 k)\/∃J1 k b,Rd H a (.dT J1)/\y=.ref b/\H b=ς (.t (k.map kV))/\r=bA J1 k
def DPut(H:Hp)(a:J4)(y v:V)(H':Hp):Prop:=
 (∃J1 k,H a=ς (.dK J1)/\y=kV k/\J1.length<qa5/\H'=upd H a (.dK (aw J1 k v)))\/
 ∃J1 k b,H a=ς (.dT J1)/\y=.ref b/\H b=ς (.t (k.map kV))/\J1.length<qa5/\H'=upd H a (.dT (aw J1 k v))
variable{a:J4}
theorem DGet.k{J1:η (Key×V)}{k:Key}(e:H a=ς (.dK J1)):DGet H a (kV k) (bA J1 k):=.inl ⟨J1,k,.inl e,rfl,rfl⟩
theorem DGet.t{b:J4}{k:η Key}(e:H a=ς (.dT J1))(O:H b=ς (.t (k.map kV))):DGet H a (.ref b) (bA J1 k):=.inr ⟨J1,k,b,.inl e,rfl,O,rfl⟩
theorem DPut.k{J1:η (Key×V)}{k:Key}{v:V}(e:H a=ς (.dK J1))(hl:J1.length<qa5):DPut H a (kV k) v (upd H a (.dK (aw J1 k v))):=.inl ⟨J1,k,e,rfl,hl,rfl⟩
theorem DPut.t {b:J4} {k:η Key} {v:V} (e:H a=ς (.dT J1)) (O:H b=ς (.t (k.map kV))) (hl:J1.length<qa5) :
  DPut H a (.ref b) v (upd H a (.dT (aw J1 k v))):=.inr ⟨J1,k,b,e,rfl,O,hl,rfl⟩
variable{Q:Value->qa8->Prop}{h':Heap}
section
variable{X:Cx}{J0:η (J4×Obj)}{σ:St}{H:Hp}{s:qa8}{a:J4}{y v:V}{u r:Value}{o:ζ V}{A:ql0}{E:Value->qa8->Prop}
theorem Inv.big(I:Inv X J0 σ H s):qk1<s.heap.objs.size:=by have h:qe6<s.heap.objs.size:=(I.mod.glob.keeps I.bk).lt;exact ql3 Ω h
theorem qe (hu:A.units+1<cLine) (I:Inv X J0 σ H s) (g:DGet H a y (ς v)) (ry:RelV y u) (h:∀ W s',Inv X J0 σ H s'->RelV v W->Q W s') :
  wpAny (model X.prog X.w) A (zg0 (.ref a) u) Q E s:=by
 rcases g with ⟨J1,k,e,ey,l⟩|⟨J1,k,b,e,ey,eb,l⟩
 .subst ey;have⟨z,hd,vs,O,Z⟩:=gb I.hok e;have⟨W,hw,U⟩:=RelO.some_of (v:=v) (o:=ze8 vs k) (by rw[l];exact O.val k);exact wpAny_getItem_of (hJ ry) Z.mapOf hw (h W _ (I.tok _) U)
 .subst ey;cases (show u=qc3 b from ry);have⟨z,hd,xs,O,Z⟩:=hU I.hok e;have⟨W,hw,U⟩:=RelO.some_of (v:=v) (o:=(atKey xs k).map (·.2)) (by rw[l];exact O.val k);have⟨p,hp,Y⟩:=qe0.mp hw;refine wpAny_getItem_heap (qn7 hu) (fJ I.hok eb) Z hp ?_;rw[Y];exact h W _ (I.tok _) U
theorem d_in (hu:A.units+1<cLine) (I:Inv X J0 σ H s) (g:DGet H a y o) (Z:RelV y u) (h:∀ s',Inv X J0 σ H s'->Q (.bool o.isSome) s') :
  wpAny (model X.prog X.w) A (qe7 .In u (.ref a)) Q E s:=by
 rcases g with ⟨J1,k,e,Y,l⟩|⟨J1,k,b,e,Y,eb,l⟩
 .subst Y;have⟨z,U,vs,O,W⟩:=gb I.hok e;refine wpAny_in_of (hJ Z) U W.mapOf ?_;rw[<- (O.val k).isSome_eq,<- l];exact h _ (I.tok _)
 .subst Y;cases (show u=qc3 b from Z);have⟨z,U,xs,O,W⟩:=hU I.hok e;refine wpAny_in_heap (qn7 hu) (fJ I.hok eb) U W ?_;have q:=(O.val k).isSome_eq;rw[qx7]at q;rw[<- q,<- l];exact h _ (I.tok _)
theorem wI (hu:A.units+1<cLine) (I:Inv X J0 σ H s) (g:DGet H a y o) (Z:RelV y u) (h:∀ s',Inv X J0 σ H s'->Q (.bool (!o.isSome)) s') :
  wpAny (model X.prog X.w) A (qe7 .NotIn u (.ref a)) Q E s:=by
 rcases g with ⟨J1,k,e,Y,l⟩|⟨J1,k,b,e,Y,eb,l⟩
 .subst Y;have⟨z,U,vs,O,W⟩:=gb I.hok e;refine wpAny_notIn_of (hJ Z) U W.mapOf ?_;rw[<- (O.val k).isSome_eq,<- l];exact h _ (I.tok _)
 .subst Y;cases (show u=qc3 b from Z);have⟨z,U,xs,O,W⟩:=hU I.hok e;refine wpAny_notIn_heap (qn7 hu) (fJ I.hok eb) U W ?_;have q:=(O.val k).isSome_eq;rw[qx7]at q;rw[<- q,<- l];exact h _ (I.tok _)
theorem gv {ob:HO} (I:Inv X J0 σ H s) (U:Mut (H a)) (hs:qg5 a s.heap h') (O:∃ q,h'.get? a=ς q) (new:ObjOk X.prog X.w (upd H a ob) h' a ob) :
  Inv X J0 σ (upd H a ob) {s with heap:=h',toks:=t'}:=
 I.write (x:=a) (e:=a) U (.inl rfl) (λb q hb z=>(hs.2 b hb).trans z) O new
theorem mV {w:J5} {J1:η (Key×V)} {vs:η (Key×Value)} (z:J1.length<=qa5) (W:(a==qk1)=ξ) (O:KV J1 vs) (U:h'.DictOf (ao P w) a vs) :
  ObjOk P w H' h' a (.dK J1):=⟨z,W,vs,O,U⟩
theorem qg {Q:Unit->qa8->Prop} (hu:A.units+1<cLine) (I:Inv X J0 σ H s) (g:DPut H a y v H') (ry:RelV y u) (rv:RelV v r) (h:∀ s',Inv X J0 σ H' s'->Q () s') :
  wpAny (model X.prog X.w) A (setItem (.ref a) u r) Q E s:=by
 rcases g with ⟨J1,k,e,Z,l,Y⟩|⟨J1,k,b,e,Z,eb,l,Y⟩
 .subst Z Y;have⟨z,hd,vs,O,dd⟩:=yT I.hok e;have hz:vs.length<=qa5:=by rw[<- O.length];exact z
  have hl:(aw J1 k v).length<=qa5:=by have:=cS J1 k v;lia
  refine wpAny_setItem_pairs (hsz:=hz) (hJ ry) dd λh' U hs=>h _ ?_
  have he:∃q,h'.get? a=ς q:=let ⟨q,_,_,W,_⟩:=U;⟨q,W⟩;exact gv I (by rw[e];exact qk9) hs he (mV hl hd (O.put k rv) U)
 .subst Z Y;cases (show u=qc3 b from ry);have⟨z,hd,xs,O,dd⟩:=Dv I.hok e;have hz:xs.length<=qa5:=by rw[<- Paired.length O];exact z
  have hl:(aw J1 k v).length<=qa5:=by have:=cS J1 k v;lia
  refine wpAny_setItem_heap (hsz:=hz) (qn7 hu) (fJ I.hok eb) dd λh' U hs=>h _ ?_
  have⟨q,es,ep,W,h2,h3,h4,_,h5⟩:=U;refine gv I (by rw[e];exact qk9) hs ⟨q,W⟩ ⟨hl,hd,_,(O.put k eb rv).keeps λc ys ec=>?_,q,es,ep,W,h2,h3,h4,h5⟩;rw[ah (v7 ec e (λz=>nomatch z))];exact ec
end
section
variable{X:Cx}{J0:η (J4×Obj)}{σ:St}{H:Hp}{s:qa8}{a:J4}{J1:η (Key×V)}{k:Key}{u:Value}{A:ql0}{E:Value->qa8->Prop}
theorem wJ(I:Inv X J0 σ H s)(e:H a=ς (.dK J1))(h:∀s',Inv X J0 σ (upd H a (.dK [])) s'->Q .none s'):wpAny (model X.prog X.w) A (call (.builtin "dict.clear") [.ref a]) Q E s:=by have⟨z,Z,vs,U,W⟩:=yT I.hok e;refine zb8 PySem.F.slot_dict_clear W.typeIs PySem.F.entry_dict_clear (PySem.F.args_dict_clear_1 _) (meets_dict_clear (ao X.prog X.w) a) ⟨vs,W,by rw[<- U.length];exact z,λh' O hs=>h _ ?_⟩;have Y:∃q,h'.get? a=ς q:=let ⟨q,_,_,hq,_⟩:=O;⟨q,hq⟩;exact gv (t':=s.toks) I (by rw[e];exact qk9) hs Y (mV (qg4 _) Z .nil O)
end
variable{X:Cx}
theorem lz{s:qa8}{o:ζ V}(I:Inv X J0 σ H s)(g:DGet H a y o):s.TypeIs (.ref a) "dict":=by
 rcases g with ⟨J1,k,e,_,_⟩|⟨J1,k,b,e,_,_,_⟩
 .have⟨_,_,vs,_,O⟩:=gb I.hok e;exact O.typeIs
 .have⟨_,_,xs,_,O⟩:=hU I.hok e;exact O.typeIs
theorem sC{w:J5}(h:Heap)(hb:qk1<h.objs.size):ObjOk P w H (h.push {cls:=.type "dict",data:=.dict #[]}) h.objs.size (.dK []):=⟨qg4 _,beq_eq_false_iff_ne.mpr (qj7 (qc5 hb)),[],.nil,Heap.DictOf.new h⟩
theorem sF{w:J5}(h:Heap)(hb:qk1<h.objs.size):ObjOk P w H (h.push {cls:=.type "dict",data:=.dict #[]}) h.objs.size (.dT []):=⟨qg4 _,beq_eq_false_iff_ne.mpr (qj7 (qc5 hb)),[],.nil,_,#[],0,qc0 _ rfl,⟨rfl,rfl,rfl⟩,rfl,rfl,qw9⟩
def AH:TE:=λ_ H Q=>∀p,H p=ψ->Q (.ref p) (upd H p (.dK []))
def AI:TE:=λ_ H Q=>∀p,H p=ψ->Q (.ref p) (upd H p (.dT []))
section
variable{X:Cx}{pos:Pos}
theorem sG:PE X (.Dict [] [] pos) AH:=λJ0 s σ H Q I h=>wpAny_Dict_empty ⟨.ref s.heap.objs.size,_,I.laid (a:=s.heap.objs.size) (o:=.dK []) (t':=s.toks) (λ_ _ q=>gP _ q) (nL _) (sC s.heap I.big),rfl,h _ (I.hok.fresh (nL _))⟩
theorem sH:PE X (.Dict [] [] pos) AI:=λJ0 s σ H Q I h=>wpAny_Dict_empty ⟨.ref s.heap.objs.size,_,I.laid (a:=s.heap.objs.size) (o:=.dT []) (t':=s.toks) (λ_ _ q=>gP _ q) (nL _) (sF s.heap I.big),rfl,h _ (I.hok.fresh (nL _))⟩
end
structure M2(X:Cx)(o:J8)(m:Str)(apos:Pos)(e f:J8)(cpos:Pos):Prop where
 base:qh8 o m X.env (eval o X.env)=eval o X.env
 few:((qh6 cpos (qb3 [e,f] X.env)).all (λx=>!x.1)&&(qo6 cpos (qi3 [] X.env)).all (λx=>x.1.isSome)
  && decide (([e,f]:List J8).length+([]:List qw8).length+(if([]:List qw8).isEmpty then 0 else 1)<30))=θ
 line:(apos.endLine==cpos.line)=θ
 trees:qh6 cpos (qb3 [e,f] X.env)=[(ξ,eval e X.env),(ξ,eval f X.env)]
def IsD(H:Hp)(a:J4):Prop:=(∃J1,Rd H a (.dK J1))\/∃J1,Rd H a (.dT J1)
theorem AJ {s:qa8} (I:Inv X J0 σ H s) (d:IsD H a) :
  s.TypeIs (.ref a) "dict"/\(∀b,qc3 a=.ref b->∃ob,s.heap.get? b=ς ob/\ob.dict=ψ)/\(a==qk1)=ξ:=by
 rcases d with ⟨J1,e⟩|⟨J1,e⟩
 .have⟨_,U,vs,_,O⟩:=gb I.hok e;refine⟨O.typeIs,λb q=>?_,U⟩;cases q;have⟨ob,_,_,h1,h2,_⟩:=O;exact⟨ob,h1,h2.2.1⟩
 .have⟨_,U,xs,_,O⟩:=hU I.hok e;refine⟨O.typeIs,λb q=>?_,U⟩;cases q;have⟨ob,_,_,h1,h2,_⟩:=O;exact⟨ob,h1,h2.2.1⟩
section
variable{X:Cx}{J0:η (J4×Obj)}{σ:St}{H:Hp}{s:qa8}{a:J4}{y d:V}{u r:Value}{o:ζ V}{A:ql0}{E:Value->qa8->Prop}
theorem AK (hu:A.units+1<cLine) (I:Inv X J0 σ H s) (g:DGet H a y o) (Z:RelV y u) (rd:RelV d r) (h:∀ w' s',Inv X J0 σ H s'->RelV (o.getD d) w'->Q w' s') :
  wpAny (model X.prog X.w) A (call (.builtin "dict.get") [.ref a,u,r]) Q E s:=by
 rcases g with ⟨J1,k,e,Y,l⟩|⟨J1,k,b,e,Y,eb,l⟩
 .subst Y;have⟨z,W,vs,O,U⟩:=gb I.hok e;refine zb8 PySem.F.slot_dict_get U.typeIs PySem.F.entry_dict_get (PySem.F.args_dict_get_3 _ _ _) (meets_dict_get_default (ao X.prog X.w) a (hJ Z) W r) ⟨_,U.mapOf,h _ _ (I.tok _) ?_⟩;rw[l];exact(O.val k).getD rd
 .subst Y;cases (show u=qc3 b from Z);have⟨z,W,xs,O,U⟩:=hU I.hok e;refine zb8 PySem.F.slot_dict_get U.typeIs PySem.F.entry_dict_get (PySem.F.args_dict_get_3 _ _ _) (meetsH_dict_get_default (za8 (ao X.prog X.w)) a b W r) ⟨qn7 hu,k,xs,fJ I.hok eb,U,h _ _ (I.tok _) ?_⟩;rw[l];exact(O.val k).getD rd
end
def AL(td ty tx:TE):TE:=λσ H Q=>td σ H λx H1=>∃a,x=.ref a/\IsD H1 a/\ty σ H1 λy H2=>tx σ H2 λz O=>∃o,DGet O a y o/\Q (o.getD z) O
section
variable{X:Cx}{o e f:J8}{apos cpos:Pos}{td ty tx:TE}
theorem sI(Y:X.A.units+1<cLine)(ho:PE X o td)(Z:PE X e ty)(hf:PE X f tx)(m:M2 X o "get" apos e f cpos):PE X (.Call (.Attribute o "get" apos) [e,f] [] cpos) (AL td ty tx):=by
 intro J0 s σ H Q I h;refine wpAny_Call_method m.base m.few m.line PySem.F.plainAttrs_dict PySem.F.slot_dict_get PySem.F.type_dict_get (thn (ho J0 s σ H _ I h) λu s1 O=>?_);have⟨x,H1,W,rx,a,ex,d,q1⟩:=O;subst ex;obtain rfl:u=qc3 a:=rx;have⟨t1,t2,_⟩:=AJ W d;refine⟨t1,t2,?_⟩;rw[m.trees]
 refine qs3 rfl (Calls.evalArgs_plain (qw0 (thn (Z J0 s1 σ H1 _ W q1) λiv s2 ⟨y,H2,I2,ry,q2⟩=>qw0 (thn (hf J0 s2 σ H2 _ I2 q2) λfv s3 ⟨z,H3,I3,rz,ov,g,q3⟩=>Calls.spliced_nil ?_))))
 exact AK Y I3 g ry rz λw' s4 I4 U=>⟨_,H3,I4,U,q3⟩
end
end L2
namespace Att
open PySem PySem.W PySem.Calls PyProof.Rows
variable{P:Params}
theorem gk{h:Heap}:∀(ns:η Int)(vs:η Value),WellAll P h vs (ns.map WData.int)->IntsAre vs ns:=by
 intro ns;induction ns with
 |nil=>intro vs w;rw[qg0]at w;cases w;exact .nil
 |cons n ns O=>
  intro vs w;rw[qa3]at w;cases w with
  |cons a b=>cases a;exact .cons _ _ (O _ b)
variable{l:OpenLaw}
theorem qh{n:Nat}(hn:l.most=ς n){h:Heap}{args:η WData}{U:η Value}
 (O:l.row.toRowW.claim.pre args=θ) (hwl:WellAll P h U args) :
  ∃a vs ns,U=[qc3 a]/\args=[WData.list (ns.map WData.int)]/\h.get? a=ς {cls:=.type "list",data:=.seq vs.toArray}/\IntsAre vs ns/\ns.length<=n:=by
 have hsh:WShape.hasAll [] args [.list .int]=θ:=(pre_splitW O).1;have hc:l.pre.holds [] {args:=args}=θ:=(pre_splitW O).2;have⟨d,r,rfl,h1,h2⟩:=hasAllW_cons hsh;obtain rfl:=hasAllW_nil h2;have⟨xs,rfl,h3⟩:=hasW_list h1;have⟨ns,rfl⟩:=items_int h3
 have W:ns.length<=n:=by
  unfold OpenLaw.pre at hc
  have h4:(WTm.not (.lt (.lit (.int (n:Int))) (.len (.arg 0)))).holds [] {args:=[.list (ns.map .int)]}=θ:=by have h4:=(holds_andW hc).1;rw[hn]at h4;exact h4
  have Z:=condW_of h4 (w_not (w_lt w_lit (w_len_list (w_arg rfl))));rw[qa2]at Z;refine Nat.le_of_not_lt λq=>?_
  have q':(n:Int)<((ns.length:Nat):Int):=by lia
  first
   |(rw[decide_eq_true q']at Z;exact absurd Z Ω)
   |(simp at Z;lia)
 cases hwl with
 |cons w1 w2=>
  cases w2;cases w1 with
  |list ho Y=>exact⟨_,_,ns,rfl,rfl,ho,gk ns _ Y,W⟩
theorem qi(l:OpenLaw)(args:η WData):l.row.toRowW.claim.post args (.bool θ) args=θ:=
 postW_of (r:=l.row.toRowW) (X:=(θ==θ))
  (show WShape.has [] (.bool θ) .bool=θ by first|rfl|decide|simp[WShape.has,WShape.arms,WShape.armsAll])
  (show(WTm.eq .res (.lit (.bool θ))).value [] {args:=args,res:=ς (.bool θ),after:=args}=ς (.bool (θ==θ))from w_eq_bool (w_res rfl) w_lit) rfl
theorem yU{n:Nat}{q:qe5}{W:η Str}{XP:(Str->ζ Value)->Heap->Prop}{YP:J5->Heap->Prop}{d:DefRec}
 (hn:l.most=ς n) (hdf:d.params.defaults=[])
 (call:∀(w:J5)(U O:qa8)(mg mb:Str->ζ Value)(fa:J4)(o:Obj)(pm cd Z:Value)(a:J4)(vs:η Value)(ns:η Int),
 Ground q W [] XP w U mg mb O.heap->YP w O.heap→
 O.heap.get? fa=ς o->o.data=.func (docDef d.name d.params d.body d.scope pm cd Z)->O.heap.CodeRec cd d.name->mg d.name=ς (.ref fa)→
 O.heap.get? a=ς {cls:=.type "list",data:=.seq vs.toArray}->IntsAre vs ns->ns.length<=n->O.gens=#[]→
 qv1 (model l.prog w) zd3 (.call (.ref fa) ⟨[.ref a],[]⟩) (λr s'=>r=.ok (.ret (.bool θ))/\OldK O.heap s'.heap/\s'.os=O.os/\za9 s'.gens) O) :
  WalkO q W XP YP l.row.toRowW d [] (λf vs=>PySem.call f vs):=by
 intro w U O mg mb G Y fa o pm cd Z dV kV ho hd hcd hD hmg hg args vals as hpre hlay hrd hwl hlo;obtain rfl:dV=.none:=Dflts.none hD hdf;obtain rfl:kV=.none:=Dflts.noKw hD;have⟨a,vs,ns,rfl,rfl,hobj,hints,hlen⟩:=qh hn hpre hwl;refine enter_call (zb3 (call w U O mg mb fa o pm cd Z a vs ns G Y ho (fd_plain hd) hcd hmg hobj hints hlen hg) λr s' hq=>?_);have⟨rfl,h2,h3,h4⟩:=hq;exact⟨.inl ⟨.bool θ,.bool θ,[],rfl,λ_=>rfl,.bool θ,qi l _,λ_=>⟨qx8,λ_ hm=>(nomatch hm)⟩⟩,h2,h3,h4⟩
end Att
namespace L2
open PySem PySem.Spec PyProof.Rows
theorem jn:∀{vs:η Value}{ns:η Int},IntsAre vs ns->Vals (ns.map V.int) vs
 |_,_,.nil=>.nil
 |_,_,.cons n t h=>.cons ⟨t,rfl⟩ (jn h)
def mW(H:Hp):Prop:=∀b,H b=ψ\/∃o xs,H b=ς (.frz o (.e xs))
omit x in
theorem sM {P:qe5} {w:J5} {K:xA9} {mg mb:Str->ζ Value} {CX:CXT} {k:Nat} {fa a:J4} {fd:qm9} {x:Str} {sp:Sp} {s₁:qa8} {vs:η Value} {ns:η Int}
  (KX:K.In s₁.heap) (hns:s₁.heap.Ns qe6 mg) (hb:s₁.heap.Ns ze7 mb) (hbb:∀x:Str,x≠"__name__"->mb x=qf5 x) (hlim:s₁.heap.NoLimit) (hg:s₁.gens=#[]) (hT0:lq K=[])
  (ha:s₁.heap.get? a=ς {cls:=.type "list",data:=.seq vs.toArray}) (hi:IntsAre vs ns) (hl:ns.length<=qa5) (hr:Room k zd3)
  (F:∀base:Heap,K.In base->base.Ns qe6 mg->FnOk P w K mg base CX k fa fd [x] sp) (Z:∀(s:qa8)(u:Value),zf8 s fd ⟨[u],[]⟩ [(x,u)])
  (hsp:∀H:Hp,mW H->SqL K H a (ns.map V.int)->sp [.ref a] H (λv _=>v=.bl θ) λ_ _ _=>False)
  (hCX:∀H e s',CX [] H s₁ (λ_ _ _=>False) e s'->False) :
  qv1 (model P w) zd3 (.call (.ref fa) ⟨[.ref a],[]⟩) (λr s'=>r=.ok (.ret (.bool θ))/\OldK s₁.heap s'.heap/\s'.os=s₁.os/\za9 s'.gens) s₁:=by
 have rv:=jn hi;have lenV:=hi.length
 -- from an abstract heap in which nothing but the script may be tracked
 have U:∀ H:Hp,mW H->SqL K H a (ns.map V.int)->HOk P w H s₁.heap->(∀ b,H b≠ψ->b=a)->(H a≠ψ->K.lookup a=ψ)→
     qv1 (model P w) zd3 (.call (.ref fa) ⟨[.ref a],[]⟩) (λr s'=>r=.ok (.ret (.bool θ))/\OldK s₁.heap s'.heap/\s'.os=s₁.os/\za9 s'.gens) s₁:=by
  intro H hO hS hok hA hK;have base_of:∀{b:J4}{o:Obj},s₁.heap.get? b=ς o->H b=ψ->(jX s₁.heap H).get? b=ς o:=λe n=>rG e n
  have noA:∀{b:J4}{o:Obj}{es:Array DictEntry}{ep:Nat},s₁.heap.get? b=ς o->o.data=.dict es ep->H b=ψ:=λ{b o es ep} e d=>by
   cases q:H b with
   |none=>rfl
   |some u=>
    have e':b=a:=hA b (by rw[q];simp);subst e';rw[ha]at e;cases e
    have d':Data.seq vs.toArray _=Data.dict es ep:=d;cases d'
  have O:∀{b:J4}{m:Str->ζ Value},s₁.heap.Ns b m->(jX s₁.heap H).Ns b m:=λ{b m} Y=>by have⟨o,es,ep,e,d,r⟩:=Y;exact⟨o,es,ep,base_of e (noA e d),d,r⟩
  have hKb:K.In (jX s₁.heap H):=λb o e=>base_of (KX b o e) (by
   cases q:H b with
   |none=>rfl
   |some u=>have e':b=a:=hA b (by rw[q];simp);subst e';rw[hK (by rw[q];simp)]at e;cases e)
  have hM:Mod K mg (jX s₁.heap H):=⟨hKb,O hns,⟨mb,O hb,hbb⟩,let ⟨mc,h1,h2⟩:=hlim;⟨mc,O h1,h2⟩⟩;have e0:Env0 P w K mg (jX s₁.heap H) zd3 [] s₁ H:=⟨rfl,hM,λb o e=>v8 e,Nat.le_of_eq (pX _ _),trivial,λb hb=>absurd (show b∈([]:η J4)from hb) Ξ,hok,.of_eq hg,λp hp=>by rw[hT0]at hp;cases hp⟩;refine zb3 ((F _ hKb (O hns)).run zd3 [] s₁ H ⟨[.ref a],[]⟩ [.ref a] [.ref a] _ _ hr e0 (Z s₁ (.ref a)) (.cons rfl .nil) (hsp H hO hS)) λr s' h=>?_
  cases r with
  |error e=>exact(hCX H e s' h).elim
  |ok fl=>
   cases fl with
   |next=>exact qk2 h
   |brk=>exact qk2 h
   |cont=>exact qk2 h
   |ret u=>
    have⟨v,H',os,bare,un,hok',r',q⟩:=h;have q':v=.bl θ:=q;subst q';obtain rfl:u=qs6 θ:=r';refine⟨rfl,OldK.of_keep λb o e=>?_,os,bare⟩;cases q:H b with
    |none=>exact un.keep b o e q (by intro z;exact absurd (show b∈([]:η J4)from z) Ξ) Ξ
    |some u=>
     rcases hO b with z|⟨ob,xs,z⟩
     .rw[q]at z;cases z
     .have z2:=un.frzs b ob _ z;have⟨e1,_⟩:=hok b _ z;have⟨e2,_⟩:=hok' b _ z2;rw[e]at e1;cases e1
      exact e2
 cases hk:K.lookup a with
 |some o=>
  -- the script is one of the module's own objects
  have e:=KX a o hk;rw[ha]at e;cases e;refine U (λ_=>ψ) (λ_=>.inl rfl) (.inr ⟨_,vs.toArray,_,hk,rfl,rfl,rfl,by rw[qb5,lenV];exact hl,‹rv›⟩) (λb u z=>by have z':(ψ:ζ HO)=ς u:=z;cases z') (λb z=>absurd rfl z) λz=>absurd rfl z
 |none=>
  refine U (λb=>if b=a then ς (.frz {cls:=.type "list",data:=.seq vs.toArray} (.e (ns.map V.int)))else ψ) (λb=>?_) (.inl (.inr ⟨{cls:=.type "list",data:=.seq vs.toArray},if_pos rfl⟩)) (λb u z=>?_) (λb z=>?_) λ_=>hk
  .by_cases hb:b=a
   .exact .inr ⟨_,_,if_pos hb⟩
   .exact .inl (if_neg hb)
  .by_cases hb:b=a
   .have z':=(if_pos hb).symm.trans z;cases z';subst hb;exact⟨ha,by rw[qa2];exact hl,vs,_,rv,ha⟩
   .have z':=(if_neg hb).symm.trans z;cases z'
  .by_cases hb:b=a
   .exact hb
   .exact absurd (if_neg hb) z
theorem Fh {l:PySem.W.OpenLaw} {n k:Nat} {q:qe5} {U:η Str} {XP:(Str->ζ Value)->Heap->Prop} {YP:J5->Heap->Prop} {d:DefRec} {K:Params->xA9} {CX:J5->CXT} {sp:J5->Sp} {x:Str}
  (hn:l.most=ς n) (hn2:n<=qa5) (hdf:d.params.defaults=[]) (hr:Room k zd3)
  (hY:∀(w:J5)(h:Heap),YP w h->(K w.params).In h) (hT0:∀w:J5,lq (K w.params)=[])
  (F:∀(w:J5)(mg:Str->ζ Value)(fa:J4)(h:Heap),(K w.params).In h->h.Ns qe6 mg->mg d.name=ς (.ref fa)→
   ∃fd:qm9,(∀(s:qa8)(u:Value),zf8 s fd ⟨[u],[]⟩ [(x,u)])∧∀base:Heap,(K w.params).In base->base.Ns qe6 mg->FnOk l.prog w (K w.params) mg base (CX w) k fa fd [x] (sp w))
  (hsp:∀(w:J5)(H:Hp)(a:J4)(ns:η Int),ns.length<=n->mW H->SqL (K w.params) H a (ns.map V.int)->sp w [.ref a] H (λv _=>v=.bl θ) λ_ _ _=>False)
  (hCX:∀(w:J5)(H:Hp)(s:qa8)(e:Value)(s':qa8),CX w [] H s (λ_ _ _=>False) e s'->False) :
  PySem.W.WalkO q U XP YP l.row.toRowW d [] (λf vs=>PySem.call f vs):=by
 refine Att.yU hn hdf λw s₀ s₁ mg mb fa o pm cd doc a vs ns G Y ho hd hcd hmg hobj Z O hg=>?_
 have KX:=hY w _ Y;have⟨fd,hb,hF⟩:=F w mg fa _ KX G.T.g hmg;exact sM KX G.T.g G.T.b G.T.builtins G.T.nolimit hg (hT0 w) hobj Z (qd7 O hn2) hr hF hb (λH hO hS=>hsp w H a ns O hO hS) λH e s'=>hCX w H s₁ e s'
end L2
namespace L2
open PySem PySem.Spec PyProof.Rows
abbrev CX0:CXT:=λ_ _ _ _ _ _=>False
abbrev E0:XK:=λ_ _ _=>False
variable{X:Cx}
theorem hZ:ck CX0 X E0:=λ_ _ _ _ _ _ _ h=>h.elim
variable{A:ql0}
theorem lA{k:Nat}(O:Room k A):A.units+1<cLine:=qj0 (Nat.add_le_add_left (by decide:1<=64) _) O.units
def Same(H H':Hp):Prop:=∀b o,H b=ς o->H' b=ς o
theorem Same.refl(H:Hp):Same H H:=λ_ _ h=>h
variable{H:Hp}
theorem Same.trans{H1 H2:Hp}(a:Same H H1)(b:Same H1 H2):Same H H2:=λc o h=>b c o (a c o h)
variable{H':Hp}
theorem Same.free(e:Same H H'){l:J4}(h:H' l=Option.none):H l=Option.none:=by
 cases q:H l with
 |none=>rfl
 |some o=>rw[e l o q]at h;cases h
variable{K:xA9}{a:J4}{xs:η V}
theorem Same.seq(e:Same H H')(h:SqL K H a xs):SqL K H' a xs:=by
 rcases h with (h|⟨o,h⟩)|h
 .exact .inl (.inl (e _ _ h))
 .exact .inl (.inr ⟨o,e _ _ h⟩)
 .exact .inr h
section
variable{κ:Type}[DecidableEq κ]
theorem wK{J1:η (κ×V)}{k:κ}{v:V}(h:bA J1 k=ς v):k∈J1.map (·.1):=by
 have q:(J1.any λkv=>decide (kv.1=k))=θ:=by
  rw[eC,h]
  all_goals rfl
 have⟨p,hp,e⟩:=List.any_eq_true.mp q;exact qb8.mpr ⟨p,hp,of_decide_eq_true e⟩
end
noncomputable def mX(names:η (Str×qw1))(cells:η (Str×J4)):η (Str×J4):=names.foldl (λcs O=>if O.2==qh1 then(O.1,(cells.lookup O.1).getD 0)::cs else cs) []
variable{cells:η (Str×J4)}{env:Env}
theorem oz (hc:env.cells=cells):∀ (names:η (Str×qw1)) (O:η (Str×J4)),(∀ x∈names,x.2=.free->∃ c,cells.lookup x.1=ς c)→
  (forIn names O (λ(x:Str×qw1)(r:η (Str×J4))=>if(x.2==qh1)=θ then(do let c <- cellOf env x.1;pure (qo2 ((x.1,c)::r)))else(pure (qo2 r):Sem _)))
   = (pure (names.foldl (λcs Y=>if Y.2==qh1 then(Y.1,(cells.lookup Y.1).getD 0)::cs else cs) O):Sem (η (Str×J4)))
 |[],O,_=>rfl
 |x::r,O,h=>by
  have Z:=λO=>oz hc r O λy hy=>h y (qe4 _ hy)
  rwa[List.forIn_cons,qs0];cases e:(x.2==qh1)with
  |false=>rwa[qg6,if_false];exact Z O
  |true=>
   have⟨c,W⟩:=h x qi9 ‹e›;have U:cellOf env x.1=pure c:=by unfold cellOf;rw[hc,W]
   rwa[if_true,U,W,qz7];exact Z _
variable{scope:J9}
theorem mY{env:Env}(h:∀x∈scope.names,x.2=.free->∃c,env.cells.lookup x.1=ς c):closureFor scope env=pure (mX scope.names env.cells):=by have:=oz (env:=env) rfl scope.names [] h;unfold closureFor mX;rw[<- this];rwa[bind_pure]
omit x in
theorem jo:∀ {names:η (Str×qw1)} {O:η (Str×J4)} {x:Str} {c:J4},(∀ y∈names,y.2=.free->∃ c,cells.lookup y.1=ς c)→
  (names.foldl (λcs W=>if W.2==qh1 then(W.1,(cells.lookup W.1).getD 0)::cs else cs) O).lookup x=ς c->(∀c,O.lookup x=ς c->cells.lookup x=ς c)->cells.lookup x=ς c
 |[],O,x,c,_,h,U=>U c h
 |y::r,O,x,c,hy,h,U=>by
  rwa[qs0]at h;refine jo (λz hz=>hy z (qe4 _ hz)) h ?_;intro c' h';split at h'
  .rename_i hf;have⟨c0,Z⟩:=hy y qi9 ‹hf›;rw[qj5]at h';split at h'
   .rename_i hx;have Y:x=y.1:=‹hx›
    rw[Z]at h';subst Y;rw[Z];simpa using h'
   .exact U c' h'
  .exact U c' h'
variable{names:η (Str×qw1)}
theorem gd{x:Str}{c:J4}(O:∀y∈names,y.2=.free->∃c,cells.lookup y.1=ς c)(h:(mX names cells).lookup x=ς c):cells.lookup x=ς c:=jo O h λc h=>by simp at h
theorem jp:∀ {names:η (Str×qw1)} {O:η (Str×J4)} {x:Str},((x,qh1)∈names\/(O.lookup x).isSome)→
  ((names.foldl (λcs U=>if U.2==qh1 then(U.1,(cells.lookup U.1).getD 0)::cs else cs) O).lookup x).isSome
 |[],O,x,h=>‹h›
 |y::r,O,x,h=>by
  rwa[qs0];refine jp ?_;rcases h with h|h
  .rcases qb9.mp h with e|h
   .subst e;right;simp[qj5]
   .exact .inl h
  .right;split
   .rw[qj5];split
    .rfl
    .exact h
   .exact h
theorem lE{x:Str}(h:(x,qh1)∈names):∃c,(mX names cells).lookup x=ς c:=qq8.mp (jp (.inl h))
structure CmpScope(N:List Str)(outer scope:J9)(M:List Str)(src:List (Option Nat)):Prop where
 kind:scope.kind=.function
 nocell:∀y∈scope.names,y.2≠.cell
 free:∀y∈scope.names,y.2=.free->outer.names.lookup y.1=ς .cell\/outer.names.lookup y.1=ς .free
 names:∀y∈scope.names,y.2=.local->scope.names.lookup y.1=ς .local
 lf:∀y∈scope.names,y.2=.free->scope.names.lookup y.1=ς .free
 len:M.length=src.length
 nd:M.Nodup
 src:∀p∈M.zip src,∀j∈p.2,N[j]?=ς p.1/\(p.1,qh1)∈scope.names
noncomputable def aH(src:η (ζ Nat))(σ:St):St:=src.map λo=>o.bind λj=>(σ[j]?).join
def cxC(X:Cx)(M:η Str)(scope:J9)(C:J4)(s:qa8)(H:Hp)(ex:η J4):Cx:={X with N:=M,s₀:=s,H₀:=H,env:=compEnvC scope (mX scope.names X.env.cells) C X.env,outer:=X.stack,ex:=ex,fn:=λ_=>ξ,pn:=[],xe:=λ_ _=>False}
def PTs(X:Cx)(ifs:η J8)(t:TT):Prop:=
 ∀(J0:η (J4×Obj))(s:qa8)(σ:St)(H:Hp)(Q:Bool->Hp->Prop),Inv X J0 σ H s->t σ H Q→
  wpAny (model X.prog X.w) X.A (forIn ifs θ λc r=>if r=θ then do let ok <- isTrue c X.env (eval c X.env);pure (qo2 ok)else pure (qo2 r)) (TP X J0 σ Q) X.xe s
def tYes:TT:=λ_ H Q=>Q θ H
theorem wL:PTs X [] tYes:=λJ0 s σ H Q I h=>wpAny_tests_nil ⟨H,I,h⟩
theorem wM{c:J8}{t:TT}(h:PT X c t):PTs X [c] t:=λJ0 s σ H Q I O=>wpAny_tests_one (h J0 s σ H Q I O)
def Wk(a b:St):Prop:=a.length=b.length/\∀(i:Nat) v,a[i]?=ς (ς v)->b[i]?=ς (ς v)
def jq(src:η (ζ Nat))(wi:TI)(g:TG)(tt:TT)(te:TE):TE:=λσ H Q=>wi σ H λJ H1=>∀D,H1 D=ψ->∃W:Nat->Nat->Hp->Prop,(∃m,W 0 m (upd H1 D (.e [])))/\∀i m H,W i m H→
 (J.stop i H/\Q (.ref D) H)\/(J.go i H/\∃N:Hp->Prop,(∀H',N H'->∃Z,Z<m/\W (i+1) Z H')/\∀x H',J.yld i H x H'→
  g x (aH src σ) H' λO H2=>Wk (aH src σ) O/\tt O H2 λb Y=>if b=θ then te O Y λv U=>∃ys,U D=ς (.e ys)/\ys.length<qa5/\N (upd U D (.e (ys++[v])))else N Y)
variable{pos:Pos}
omit x in
theorem mZ{prog:qe5}{w:J5}{R:Result->qa8->Prop}{s:qa8}{elt O iter:J8}{ifs:η J8}{it acc:Value}(I:Nat->qa8->Prop)
 (turn:∀n s,I n s->wpAny (model prog w) A (qz5 it) (λr U=>match r with
 |none=>R (.ok .next) U
 |some v=>wpAny (model prog w) A (qu9 O it v) (λ_ W=>wpAny (model prog w) A (qz4 O env v) (λ_ Y=>
 wpAny (model prog w) A (forIn ifs θ λc r=>if r=θ then do let ok <- isTrue c env (eval c env);pure (qo2 ok)else pure (qo2 r)) (λok s₃ =>
 if ok=θ then wpAny (model prog w) A (eval elt env) (λx s₄ =>
 wpAny (model prog w) A (call (.builtin "list.append") [acc,x]) (λ_ s₅=>∃m,m<n/\I m s₅) (λ_ _=>False) s₄) (notedBy (model prog w) A env λe s'=>R (.error e) s') s₃
 else ∃m,m<n/\I m s₃) (λ_ _=>False) Y) (λ_ _=>False) W) (λ_ _=>False) U) (λ_ _=>False) s)
 (n:Nat) (h:I n s) :
  qv1 (model prog w) A (.compLoop (.ListComp elt [⟨O,iter,ifs,0⟩] scope pos) 0 it acc env) R s:=by
 refine codeAny_loop rfl I (λn s hI=>?_) n h;show wpAny _ A ((compTurn (.ListComp elt [⟨O,iter,ifs,0⟩] scope pos) 0 it acc env).onRaise (λx=>do noteFrame x env;theTreesLotGoes x)) _ _ s;refine wpAny_noted ?_;rw[compTurn_list];refine wB (zd7 (wB (qn4 (turn n s hI) (λr U Z=>?_) λ_ _ h'=>h'.elim)));cases r with
 |none=>exact qa6 Z
 |some v=>
  refine wB (qn4 Z (λ_ W h₁'=>?_) λ_ _ h'=>h'.elim);refine wB (qn4 h₁' (λ_ Y h₂=>wB (qn4 h₂ (λok s₃ h₃=>?_) λ_ _ h'=>h'.elim)) λ_ _ h'=>h'.elim);cases ok with
  |false=>exact qa6 ⟨rfl,h₃⟩
  |true=>exact wB (wB (qn4 h₃ (λx s₄ h₄=>wB (qn4 h₄ (λ_ s₅ h₅=>qa6 (qa6 ⟨rfl,h₅⟩)) λ_ _ h'=>h'.elim)) λ_ _ h'=>h'))
variable{J0:η (J4×Obj)}{σ:St}{Q:VK}{cpos:Pos}{QQ:Value->qa8->Prop}{use:ζ (Value->Sem Unit)}
section
variable{X:Cx}{elt tg iter:J8}{ifs:η J8}{scope:J9}{pos:Pos}{M:η Str}{src:η (ζ Nat)}{wi:TI}{g:TG}{tt:TT}{te:TE}
omit x in
theorem j8{x:Str}(hn:∀y∈scope.names,y.2≠.cell)(h:(relabel scope env).names.lookup x=ς .cell\/(relabel scope env).names.lookup x=ς .free):(x,qh1)∈scope.names:=by
 have O:∀k,(relabel scope env).names.lookup x=ς k->(k=.cell\/k=.free)->(x,qh1)∈scope.names:=by
  intro k hk U;have Y:=PySem.mem_of_lookup hk;unfold relabel at Y;have⟨⟨n,Z⟩,W,e⟩:=qb8.mp Y;dsimp only at e;split at e
  .rename_i hc;rwa[qa1]at hc;have:Z=.free:=‹hc.1.1›
   subst this;cases e;exact W
  .cases e;rcases U with z|z
   .subst z;exact absurd rfl (hn _ W)
   .subst z;exact W
 rcases h with h|h
 .exact O _ h (.inl rfl)
 .exact O _ h (.inr rfl)
theorem sO{s s1:qa8}{fp:η J4}{m1:Str->ζ Value}(S:CmpScope X.N X.env.scope scope M src)(I:Inv X J0 σ H s)(hf:∀b∈fp,dL X J0 H b)
 (hfl:∀b∈fp,b<s.heap.objs.size) (hn:s1.heap.Ns s.heap.objs.size m1) (hk:∀b o,s.heap.get? b=ς o->s1.heap.get? b=ς o) (hos:s1.os=s.os) (hg:s1.gens=s.gens) :
  Inv (cxC X M scope s.heap.objs.size s H fp) [] (aH src σ) H s1:=by
 have Z:∀x∈scope.names,x.2=.free->∃c,X.env.cells.lookup x.1=ς c:=λx hx W=>I.ok.has x.1 (S.free x hx W)
 have O:∀x c,(mX scope.names X.env.cells).lookup x=ς c->X.env.cells.lookup x=ς c:=λx c h=>gd Z h
 have U:∀c v,s.heap.IsCell c v->s1.heap.IsCell c v:=λc v hq1=>by have⟨o,ho,hd⟩:=hq1;exact⟨o,hk c o ho,hd⟩
 refine⟨⟨I.ok.mod,S.kind,I.ok.glob,I.ok.blt,nL _,λy z c h1 h2=>I.ok.inj y z c (O _ _ h1) (O _ _ h2),λx hx=>lE (j8 S.nocell hx),λx c h=>(nomatch h),I.ok.hd,I.ok.frames,.inl rfl,
  λb hb=>⟨qc5 (hfl b hb),λx c h=>(hf b hb).2.2.2.2.1 x c (O _ _ h)⟩,I.bs,qd7 I.ok.bsz I.sz,λb o e hb=>?_,λb hb z=>?_,I.stack,I.stkFree,λp hp=>I.base.cts _ _ (I.ok.tb p hp)⟩,
  hos,(by rw[hg];exact I.bare),Un.kept hk,⟨m1,hn,λi x v h1 h2 h3=>?_⟩,λx c h=>?_,I.hok.fresh (qs5 _),λx c h=>I.freeC x c (O _ _ h),λp hp=>absurd hp (by simp[cxC]),I.hok.kept hk,?_⟩
 .rcases(hf b hb).2.2.2.1 with z|z
  .exact I.ok.noex b o e z
  .exact absurd (qc7 (qb4 e) (qd7 I.ok.bsz z)) (qm7 _)
 .rcases qb9.mp (I.stkSub b z)with q|q
  .exact(hf b hb).2.1 q
  .exact(hf b hb).2.2.1 q
 . -- a name taken over
   have h1:M[i]?=ς x:=h1;unfold aH at h2;rw[qa9]at h2;cases hs:src[i]? with
   |none=>rw[hs]at h2;cases h2
   |some o=>
    rw[hs]at h2;rwa[qb2,qx9]at h2;cases o with
    |none=>cases h2
    |some j=>
     rwa[qa0]at h2
     have hmem:(x,ς j)∈M.zip src:=by
      have:(M.zip src)[i]?=ς (x,ς j):=by rw[qx0];exact⟨h1,hs⟩
      exact qa4 this
     have⟨hN,W⟩:=S.src _ hmem j rfl
     have hσ:σ[j]?=ς (ς v):=by
      cases e:σ[j]? with
      |none=>rw[e]at h2;cases h2
      |some o=>rw[e]at h2;rwa[qp6]at h2;rw[h2]
     have Y:=S.free _ W rfl;have⟨m,hm,hl⟩:=I.loc;have⟨u,r,l⟩:=hl j x v hN hσ (.inr Y);refine⟨u,r,?_⟩
     have hloc:X.env.kindOf x≠ς .local:=by show X.env.scope.names.lookup x≠_;rcases Y with q|q<;>rw[q]<;>decide
     rcases l with l|⟨_,c,e,z⟩
     .exact absurd l.1 hloc
     .have⟨c',e'⟩:=lE (cells:=X.env.cells) W;have:=O _ _ e';rw[e]at this;cases this;refine .inr ⟨?_,c,e',U _ _ z⟩;rcases h3 with q|q
      .exact absurd q (by
        -- a name that is free in the block is not local there
        exact(by
         intro q
         have:scope.names.lookup x=ς .local:=by
          have hb:∀(names:η (Str×qw1)),(names.map λ(n,k)=>if(k==qh1&&X.env.scope.kind==.function&&X.env.kindOf n==ς .cell)then(n,qw1.cell)else(n,k)).lookup x=ς .local->names.lookup x=ς .local:=by
           intro names;induction names with
           |nil=>intro h;simp at h
           |cons y r ih=>
            have⟨n,k⟩:=y;intro h;rwa[qa3]at h;by_cases hx:x=n
            .subst hx;split at h
             .simp[qj5]at h
             .simpa[qj5] using h
            .have hx':(x==n)=ξ:=‹hx›
             split at h
             .rwa[qj5,hx']at h ⊢;exact ih h
             .rwa[qj5,hx']at h ⊢;exact ih h
          exact hb _ q
         rw[S.lf _ W rfl]at this;cases this))
      .exact q
 .have⟨v,z⟩:=I.cell x c (O _ _ h);exact⟨v,U _ _ z⟩
 .show(aH src σ).length=M.length;unfold aH;rw[qa2,S.len]
omit x in
theorem qj{s:qa8}{use:ζ (Value->Sem Unit)}(S:CmpScope X.N X.env.scope scope M src)(hc:X.calm=θ)(hi:PI X tg iter wi)(hg:M.Nodup->∀C s H ex,PG (cxC X M scope C s H ex) tg g)(ht:∀C s H ex,PTs (cxC X M scope C s H ex) ifs tt)
 (he:∀(s3:qa8)(H3:Hp)(fp:η J4)(acc:Value)(pl:η (J4×Obj))(U:St)(H9:Hp)(s9:qa8)(Q':VK),Inv X J0 σ H3 s3->(∀b∈fp,dL X J0 H3 b)->Inv (cxC X M scope s3.heap.objs.size s3 H3 fp) pl U H9 s9->te U H9 Q'→
 wpAny (model X.prog X.w) X.A (eval elt (cxC X M scope s3.heap.objs.size s3 H3 fp).env) (EP (cxC X M scope s3.heap.objs.size s3 H3 fp) pl U Q') (notedBy (model X.prog X.w) X.A (cxC X M scope s3.heap.objs.size s3 H3 fp).env (λe s'=>ze3 (model X.prog X.w) X.A X.xe use QQ acc s3.heap.objs.size (.error e) s')) s9) (hs:∀x,qh4 iter X.env x=pure x) (I:Inv X J0 σ H s) (h:jq src wi g tt te σ H Q)
 (hfin:∀(D C:J4)(H':Hp)(s':qa8)(m:Str->ζ Value),Inv X J0 σ H' s'->dL X J0 H' C->s'.heap.Ns C m->Q (.ref D) H'->ze3 (model X.prog X.w) X.A X.xe use QQ (.ref D) C (.ok .next) s') :
  wpAny (model X.prog X.w) X.A (ze4 (.ListComp elt [⟨tg,iter,ifs,0⟩] scope pos) scope X.env cpos (newList []) ξ (eval iter X.env) use) QQ X.xe s:=by
 have Z:∀x∈scope.names,x.2=.free->∃c,X.env.cells.lookup x.1=ς c:=λx hx hfr=>I.ok.has x.1 (S.free x hx hfr)
 refine wpAny_comprehension_free (use:=use) rfl hs (mY Z) S.kind S.names (thn (hi J0 s σ H _ I h) λv s1 h1=>thn h1 λitv s2 h2=>?_);have⟨it,fp,tn,J,H2,rfl,I2,T,st2,f2,hq⟩:=h2;refine qf3 ?_;have I3:Inv X J0 σ (upd H2 s2.heap.objs.size (.e [])) {s2 with heap:=s2.heap.push {cls:=.type "list",dict:=ψ,data:=.seq ([]:η Value).toArray},toks:=s2.toks}:=I2.lnew (J3:=[]) (ys:=[]) (t':=s2.toks) .nil Ξ;have hD:H2 s2.heap.objs.size=ψ:=I2.fresh;have⟨W,⟨m0,w0⟩,turn⟩:=hq _ hD;generalize hDn:s2.heap.objs.size=D at*
 generalize hs3:({s2 with heap:=s2.heap.push {cls:=.type "list",dict:=ψ,data:=.seq ([]:η Value).toArray},toks:=s2.toks}:qa8)=s3 at*
 have f3:∀b∈fp,dL X J0 (upd H2 D (.e [])) b:=λb hb=>⟨by have⟨o,e,_⟩:=T.obj _ _ st2 b hb;rw[ah (by rw[<- hDn];exact qc5 (qb4 e))];exact(f2 b hb).1,(f2 b hb).2⟩
 have k23:∀b o,s2.heap.get? b=ς o->s3.heap.get? b=ς o:=λb o e=>by rw[<- hs3];exact gP _ e
 have st3:tn 0 s3.heap:=T.keep _ _ _ st2 λb _ o e=>k23 b o e
 have fl3:∀b∈fp,b<s3.heap.objs.size:=λb hb=>by have⟨o,e,_⟩:=T.obj _ _ st3 b hb;exact qb4 e
 refine wpAny_newFunctionEnv S.nocell (by intro y hy;simp at hy) (λh₁ hns₁ hsb₁=>?_) S.kind;have k34:∀b o,s3.heap.get? b=ς o->h₁.get? b=ς o:=λb o e=>hsb₁.extBut b o (qc5 (qb4 e)) (gP _ e)
 generalize hs4:({s3 with heap:=h₁,toks:=s3.toks+([]:η (Str×Value)).length}:qa8)=s4
 have I4:Inv (cxC X M scope s3.heap.objs.size s3 (upd H2 D (.e [])) fp) [] (aH src σ) (upd H2 D (.e [])) s4:=by rw[<- hs4];exact sO S I3 f3 fl3 hns₁ k34 rfl rfl
 have st4:tn 0 s4.heap:=T.keep _ _ _ st3 λb _ o e=>by rw[<- hs4];exact k34 b o e
 generalize O:cxC X M scope s3.heap.objs.size s3 (upd H2 D (.e [])) fp=Y at*
 have hg':PG Y tg g:=by rw[<- O];exact hg S.nd _ _ _ _
 have ht':PTs Y ifs tt:=by rw[<- O];exact ht _ _ _ _
 have eP:Y.prog=X.prog:=by rw[<- O];rfl
 have eW:Y.w=X.w:=by rw[<- O];rfl
 have eK:Y.K=X.K:=by rw[<- O];rfl
 have eA:Y.A=X.A:=by rw[<- O];rfl
 have ex':Y.xe=λ_ _=>False:=by rw[<- O];rfl
 have ec:Y.calm=θ:=by rw[<- O];exact hc
 have eE:Y.env=compEnvC scope (mX scope.names X.env.cells) s3.heap.objs.size X.env:=by rw[<- O];rfl
 have stat:∀{H':Hp},(∀b∈fp,H' b=ψ)->∀b∈fp,dL Y [] H' b:=λhn b hb=>by
  rw[<- O];refine⟨hn b hb,qc5 (fl3 b hb),λz=>?_,.inl hb,λx c h=>(f3 b hb).2.2.2.2.1 x c (gd Z h),λp hp=>absurd hp (by simp[cxC])⟩;rcases qb9.mp (I3.stkSub b z)with q|q
  .exact(f3 b hb).2.1 q
  .exact(f3 b hb).2.2.1 q
 -- behind the block
 have fin:∀(H':Hp)(s':qa8),Inv Y [] (aH src σ) H' s'->Q (.ref D) H'->ze3 (model X.prog X.w) X.A X.xe use QQ (.ref D) s3.heap.objs.size (.ok .next) s':=by
  intro H' s' J' q;rw[<- O]at J';have⟨m,hn,_⟩:=id J'.loc;have hC:H' s3.heap.objs.size=ψ:=J'.free;have un:Un (frs X.stack) fp (upd H2 D (.e [])) H' s3.heap s'.heap:=J'.base;have IA:Inv X J0 σ H' s':=I3.call' (s':=s') (show s'.os=s3.os from J'.os) un J'.hok J'.bare λb hb=>⟨(f3 b hb).2.2.2.1,(f3 b hb).2.1,(f3 b hb).2.2.2.2.1,(f3 b hb).2.2.2.2.2⟩
  exact hfin D _ H' s' m IA (I3.fpOk (nL _) hC) hn q
 have loop:∀s4':qa8,s4'=s4->qv1 (model X.prog X.w) X.A (.compLoop (.ListComp elt [⟨tg,iter,ifs,0⟩] scope pos) 0 (.ref it) (.ref D) Y.env) (ze3 (model X.prog X.w) X.A X.xe use QQ (.ref D) s3.heap.objs.size) s4':=by
  rintro _ rfl;refine mZ (λn s'=>∃i H',Inv Y [] (aH src σ) H' s'/\tn i s'.heap/\(∀b∈fp,H' b=ψ)/\W i n H') ?_ m0 ⟨0,_,I4,st4,λb hb=>(f3 b hb).1,w0⟩;rintro n s5 ⟨i,H5,I5,st5,fr5,w5⟩;rcases turn i n H5 w5 with ⟨stop,qn⟩|⟨go,N,hN,step⟩
  .have:=T.done Y eP eW eK ec i [] s5 (aH src σ) H5 (λ_ _=>False) I5 (stat fr5) st5 stop;rw[eA]at this;refine thn this λr s6 hq2=>?_
   have⟨hr,I6⟩:=hq2;subst hr;exact fin H5 s6 I6 qn
  .have:=T.item Y eP eW eK ec i [] s5 (aH src σ) H5 (λ_ _=>False) I5 (stat fr5) st5 go;rw[eA]at this;refine thn this λr s6 hq3=>?_
   have⟨u,hr,h6⟩:=hq3;subst hr;refine thn h6 λ_ s7 hq4=>?_
   have⟨x,H7,I7,r7,y7,st7,fr7⟩:=hq4;have I7':=I7.pinned (stat fr7) (T.obj _ _ st7);have a1:=hg' _ s7 (aH src σ) H7 x u _ I7' r7 (step x H7 y7);rw[ex',eP,eW,eA]at a1;refine thn a1 λ_ s8 hq5=>?_
   have⟨U,H8,I8,wk8,q8⟩:=hq5;have a2:=ht' _ s8 U H8 _ I8 q8;rw[ex',eP,eW,eA]at a2;refine thn a2 λok s9 hq6=>?_
   have⟨H9,I9,q9⟩:=hq6
   have again:∀{H7':Hp}{s':qa8},Inv Y ([]++fq fp s7.heap) U H7' s'->N H7'->∃m,m<n/\∃i H',Inv Y [] (aH src σ) H' s'/\tn i s'.heap/\(∀b∈fp,H' b=ψ)/\W i m H':=λ{H7' s'} J7 n7=>by have⟨m',hm,w7⟩:=hN H7' n7;refine⟨m',hm,i+1,H7',J7.unpinned.weak wk8.1 wk8.2,T.keep _ _ _ st7 λb hb o e=>(J7.pin (b,o) (qe2 _ (qe2 _ (ci hb e)))).1,λb hb=>?_,w7⟩;have⟨o,e,d⟩:=T.obj _ _ st7 b hb;exact(J7.pin (b,o) (qe2 _ (qe2 _ (ci hb e)))).2.1
   cases ok with
   |false=>exact again I9 q9
   |true=>
    have I9':Inv (cxC X M scope s3.heap.objs.size s3 (upd H2 D (.e [])) fp) ([]++fq fp s7.heap) U H9 s9:=by rw[O];exact I9
    have a3:=he s3 (upd H2 D (.e [])) fp (.ref D) _ U H9 s9 _ I3 f3 I9' q9;rw[O]at a3;refine thn a3 λv s10 hq7=>?_
    have⟨y,H10,I10,r10,ys,hl,hz,q10⟩:=hq7;have a4:=fH (X:=Y) _ s10 U H10 (.ref D) [y] (.ref D) [v] (λ_ H'=>N H') I10 rfl (.cons r10 .nil) ⟨D,ys,y,rfl,rfl,hl,hz,q10⟩;rw[ex',eP,eW,eA]at a4;refine thn a4 λ_ s11 hq8=>?_
    have⟨_,H11,I11,_,q11⟩:=hq8;exact again I11 q11
 have e4:∀c:Env,c=Y.env->qv1 (model X.prog X.w) X.A (.compStart (.ListComp elt [⟨tg,iter,ifs,0⟩] scope pos) 0 (.ref it) (.ref D) c) (ze3 (model X.prog X.w) X.A X.xe use QQ (.ref D) s3.heap.objs.size) s4:=by rintro _ rfl;exact codeAny_compStart_list (loop _ rfl) (T.self _ _ _ _ _ st4 (loop _ rfl))
 exact e4 _ (by rw[eE];rfl)
omit x in
theorem jr{s:qa8}(S:CmpScope X.N X.env.scope scope M src)(hc:X.calm=θ)(hi:PI X tg iter wi)(hg:M.Nodup->∀C s H ex,PG (cxC X M scope C s H ex) tg g)(W:∀C s H ex,PTs (cxC X M scope C s H ex) ifs tt)
 (Y:∀C s H ex,PE (cxC X M scope C s H ex) elt te) (hs:∀x,qh4 iter X.env x=pure x) (I:Inv X J0 σ H s) (h:jq src wi g tt te σ H Q)
 (O:∀(D C:J4)(H':Hp)(s':qa8)(m:Str->ζ Value),Inv X J0 σ H' s'->dL X J0 H' C->s'.heap.Ns C m->Q (.ref D) H'->ze3 (model X.prog X.w) X.A X.xe use QQ (.ref D) C (.ok .next) s') :
  wpAny (model X.prog X.w) X.A (ze4 (.ListComp elt [⟨tg,iter,ifs,0⟩] scope pos) scope X.env cpos (newList []) ξ (eval iter X.env) use) QQ X.xe s:=
 qj S hc hi hg W (λs3 H3 fp acc pl U Z s9 Q' _ _ J q=>qn4 (Y _ _ _ _ pl s9 U Z Q' J q) (λ_ _ x=>x) λ_ _ x=>qk2 x) hs I h O
theorem Inv.but{s:qa8}{C:J4}{W:Heap}(Y:Inv X J0 σ H s)(O:dL X J0 H C)(sb3:qg5 C s.heap W):Inv X J0 σ H {s with heap:=W}:=by
 have kC:∀b o,b≠C->s.heap.get? b=ς o->W.get? b=ς o:=λb o hb e=>sb3.extBut b o hb e
 have nm:∀{b:J4},b∉[C]->b≠C:=λhb z=>hb (by rw[z];exact qi9)
 refine Y.call' (s':={s with heap:=W}) (ch:=[C]) rfl ⟨λb o e n hb U=>kC b o (nm U) e,λb o e n hb U=>⟨o.slots,kC b o (nm U) e⟩,λb o e n U=>n,λb o e U=>⟨o,kC b o (nm U) e⟩,λb xs e=>e,λb o u e=>e,λb ps e=>⟨#[],by rw[Array.append_empty];exact e⟩,λb qs e=>e⟩ ?_ Y.bare λb hb=>?_
 .intro b u e;have nb:b≠C:=λz=>by rw[z,O.1]at e;cases e
  refine(Y.hok b u e).stay (λc v Z q=>kC c v ?_ q) (λ_ q=>q) (λ_ _ q=>q) λ_ _ _ q=>q
  rcases Z with z|z
  .rw[z];exact nb
  .intro w;rw[w,O.1]at z;cases z
 .cases qw3.mp hb;exact⟨O.2.2.2.1,O.2.1,O.2.2.2.2.1,O.2.2.2.2.2⟩
theorem sP (S:CmpScope X.N X.env.scope scope M src) (hc:X.calm=θ) (hi:PI X tg iter wi) (Y:M.Nodup->∀ C s H ex,PG (cxC X M scope C s H ex) tg g) (U:∀ C s H ex,PTs (cxC X M scope C s H ex) ifs tt)
  (W:∀C s H ex,PE (cxC X M scope C s H ex) elt te) (hs:∀x,qh4 iter X.env x=pure x:=by intro _;rfl) :
  PE X (.ListComp elt [⟨tg,iter,ifs,0⟩] scope pos) (jq src wi g tt te):=by
 intro J0 s σ H Q I h;rw[eval_ListComp];exact jr (use:=ψ) S hc hi Y U W hs I h λD C H' s' m IA O hn q=>⟨m,hn,λh' Z=>⟨.ref D,H',IA.but O Z,rfl,q⟩⟩
end
noncomputable def Its(x:Str):It:=⟨λi _=>i<x.cps.size,λi H v H'=>H'=H/\∃c,x.cps[i]?=ς c/\v=.str ⟨#[c]⟩,λi _=>i=x.cps.size⟩
section
variable{X:Cx}{tg:J8}
def iStr(tl:TE):TI:=λσ H R=>tl σ H λv H1=>∃x,v=.str x/\R (Its x) H1
theorem jt:∀{ts:η Str}{us:η Value},Vals (ts.map V.str) us->∃l,us=strValues l/\l.map (·.1)=ts
 |[],_,.nil=>⟨[],rfl,rfl⟩
 |x::r,_,.cons h t=>by have⟨U,rfl⟩:=h;have⟨l,O,e2⟩:=jt t;exact⟨(x,U)::l,by rw[O];rfl,by rw[<- e2];rfl⟩
theorem wN:MtR X "str.join" (λx vs H Q=>∃(a:Str)(l:J4)(ts:η Str),x=.str a/\vs=[.ref l]/\SqL X.K H l (ts.map V.str)/\JoinOk a ts=θ/\Q (.str (zf6 a ts)) H):=by intro J0 s σ H x vs v us Q I W Z h;have⟨a,l,ts,rfl,rfl,Y,U,q⟩:=h;have⟨t,rfl⟩:=W;have⟨u,rfl,O⟩:=Z.one;cases O;have⟨J3,r,p,hz⟩:=I.list Y;have⟨ls,rfl,e2⟩:=jt r;exact SC.join p.isList e2 U λt' k=>⟨.str _,H,I.tok _,⟨_,rfl⟩,q⟩
theorem oA{v:Value}{o:ζ Int}(h:zf1 v o):∃p:ζ (Int×Tok),v=partValue p/\o=p.map (·.1):=by
 cases o with
 |none=>exact⟨ψ,by cases h<;>rfl,rfl⟩
 |some i=>cases h;exact⟨ς (i,_),rfl,rfl⟩
def rSlS:V->ζ Int->ζ Int->Hp->VK->Prop:=λx lo hi H Q=>∃z,x=.str z/\z.length<=qa5/\Q (.str (Txt.slice z lo hi)) H
theorem AN:SlR X rSlS:=by intro J0 s σ H x v vl vu lo hi sl Q I U hs pl O h;have⟨z,rfl,hz,q⟩:=h;have⟨t,rfl⟩:=U;have⟨l,rfl,rfl⟩:=oA pl;have⟨u,rfl,rfl⟩:=oA O;refine⟨"str",_,F.slot_str_getitem.lookup,typeIs_str _ _ _,?_⟩;exact wpAny_getItem_str_slice (l:=l) (u:=u) (st:=ψ) hs rfl (post_val_or_str ⟨qd7 (Txt.slice_le z _ _) hz,λt' k=>⟨.str _,H,I.tok _,⟨_,rfl⟩,q⟩⟩)
end
theorem iW:qf5 "isinstance"=ς (.builtin "isinstance"):=by first|exact PySem.boot_isinstance|exact PyProof.Rows.boot_isinstance|decide +kernel
theorem j9:qf5 "enumerate"=ς (.type "enumerate"):=by first|exact PySem.boot_enumerate|exact PyProof.Rows.boot_enumerate|decide +kernel
structure OkF(P:qe5)(w:J5)(K:xA9)(mg:Str->Option Value)(base:Heap)(x:Str)(k:Nat)(ps:List Str)(sp:Sp):Prop where
 ex:∃f fd,mg x=ς (.ref f)/\xD9 K (.ref f)=θ/\Binds K fd ps []/\FnOk P w K mg base CX0 k f fd ps sp
section
variable{X:Cx}{k:Nat}{ps:η Str}{sp:Sp}{x:Str}{p pos:Pos}{e:J8}{es:η J8}{t:TA}
theorem sQ (F:OkF X.prog X.w X.K X.mg X.base x k ps sp) (hr:Room k X.A) (Z:Gl X x) (W:PABq X (e::es) t) (O:(x==("__debug__":Str))=ξ:=by decide)
  (Y:qb3 (e::es) X.env=(ξ,eval e X.env)::qb3 es X.env:=by rfl) (U:(qh6 pos (qb3 es X.env)).any (·.1)=ξ:=by rfl):PE X (.Call (.Name x p) (e::es) [] pos) (jf sp [] E0 t):=by
 have⟨f,fd,h1,h2,h3,h4⟩:=F.ex;exact oo h4 hr Z h1 h2 h3 .nil hZ W O Y U
theorem qk(F:OkF X.prog X.w X.K X.mg X.base x k ps sp)(Y:Room k X.A)(U:Gl X x)(O:(x==("__debug__":Str))=ξ:=by decide):PE X (.Call (.Name x p) [] [] pos) (jf sp [] E0 mQ):=by have⟨f,fd,h1,h2,W,h4⟩:=F.ex;exact r6 h4 Y U h1 h2 W .nil hZ O
end
noncomputable def sR(N:η Str)(outer scope:J9)(M:η Str)(src:η (ζ Nat)):Bool:=
 (match scope.kind with|.function=>θ|_=>ξ)&&
 scope.names.all (λy=>decide (y.2≠.cell))&&
 scope.names.all (λy=>!decide (y.2=.free)||(decide (outer.names.lookup y.1=ς .cell)||decide (outer.names.lookup y.1=ς .free)))&&
 scope.names.all (λy=>!decide (y.2=.local)||decide (scope.names.lookup y.1=ς .local))&&
 scope.names.all (λy=>!decide (y.2=.free)||decide (scope.names.lookup y.1=ς .free))&&
 decide (M.length=src.length)&&decide M.Nodup&&
 (M.zip src).all (λp=>match p.2 with|none=>θ|some j=>decide (N[j]?=ς p.1)&&decide ((p.1,qh1)∈scope.names))
variable{src:η (ζ Nat)}
theorem CmpScope.of{N:η Str}{outer:J9}{M:η Str}(h:sR N outer scope M src=θ):CmpScope N outer scope M src:=by
 unfold sR at h;rwa[qa1,qc9,qf0,qi4,decide_eq_true_eq,decide_eq_false_iff_not]at h;have⟨⟨⟨⟨⟨⟨⟨h1,h2⟩,Z⟩,h4⟩,Y⟩,W⟩,h7⟩,h8⟩:=h;refine⟨?_,h2,λy O e=>(Z y O).resolve_left λz=>z e,λy O e=>(h4 y O).resolve_left λz=>z e,λy O e=>(Y y O).resolve_left λz=>z e,W,h7,λp hp j U=>?_⟩
 .revert h1;cases scope.kind<;>simp
 .have:=h8 p hp;cases e:p.2 with
  |none=>rw[e]at U;cases U
  |some j'=>rw[e]at U this;cases U;simpa using this
def Plain(J:It)(xs:η V)(ok:Hp->Prop):Prop:=∀i H,ok H->(i<xs.length->J.go i H)/\(i=xs.length->J.stop i H)/\∀x H',i<xs.length->J.yld i H x H'->H'=H/\xs[i]?=ς x
theorem plain_list:Plain (Itl K a) xs (λH=>SqL K H a xs):=λi H h=>⟨λhi=>⟨xs,xs[i],h,by simp[hi]⟩,λe=>⟨xs,h,Θ⟩,λx H' _ y=>⟨y.1,y.2 xs h⟩⟩
theorem plain_tup:Plain (Itt K a) xs (λH=>SqT K H a xs):=λi H h=>⟨λhi=>⟨xs,xs[i],h,by simp[hi]⟩,λe=>⟨xs,h,Θ⟩,λx H' _ y=>⟨y.1,y.2 xs h⟩⟩
noncomputable def kc(lo:Int)(n:Nat):η V:=(qd9 n).map λ(i:Nat)=>V.int (lo+i)
theorem plain_range{lo:Int}{n:Nat}:Plain (Itr lo n) (kc lo n) (λ_=>True):=λi H h=>by
 refine⟨λhi=>?_,λe=>?_,λx H' hi y=>?_⟩
 .show i<n;simpa[kc] using hi
 .show n<=i;simp[kc]at e;lia
 .have⟨e,rfl⟩:=y;refine⟨e,?_⟩;unfold kc at hi ⊢;rw[qa2,qy0]at hi;rw[qa9,List.getElem?_range hi];rfl
noncomputable def signV(x:Str):η V:=x.cps.toList.map λc=>V.str ⟨#[c]⟩
def yV(src:η (ζ Nat))(g:TG)(tt:TT)(te:TE)(σ:St)(J:It)(H1:Hp)(Q:VK)(D:J4):Prop:=∃W:Nat->Nat->Hp->Prop,(∃m,W 0 m (upd H1 D (.e [])))/\∀i m H,W i m H→
 (J.stop i H/\Q (.ref D) H)\/(J.go i H/\∃N:Hp->Prop,(∀H',N H'->∃Z,Z<m/\W (i+1) Z H')/\∀x H',J.yld i H x H'→
  g x (aH src σ) H' λO H2=>Wk (aH src σ) O/\tt O H2 λb Y=>if b=θ then te O Y λv U=>∃ys,U D=ς (.e ys)/\ys.length<qa5/\N (upd U D (.e (ys++[v])))else N Y)
variable{wi:TI}{te:TE}
theorem sT{g:TG}{tt:TT}:jq src wi g tt te σ H Q=wi σ H λJ H1=>∀D,H1 D=ψ->yV src g tt te σ J H1 Q D:=rfl
def ForW(g:TG)(tb:TS)(D:Ends)(J:It)(σ:St)(H1:Hp):Prop:=∃W:Nat->Nat->St->Hp->Prop,(∃m,W 0 m σ H1)/\∀i m σ H,W i m σ H→ (J.stop i H/\D.nx σ H)\/(J.go i H/\∃N:St->Hp->Prop,(∀O H',N O H'->∃Y,Y<m/\W (i+1) Y O H')/\∀x H',J.yld i H x H'->g x σ H' λU H2=>tb {D with nx:=N,ct:=N,bk:=D.nx} U H2)
theorem wO{g:TG}{tb:TS}{D:Ends}:tFor wi g tb D σ H=wi σ H λJ H1=>ForW g tb D J σ H1:=rfl
theorem sU{x:Str}{v:V}(U:Gl X x)(W:∃u,X.mg x=ς u/\RelV v u)(O:(x==("__debug__":Str))=ξ:=by decide):PE X (.Name x pos) (tC v):=by have⟨u,h1,h2⟩:=W;exact wb U h1 h2 O
noncomputable def cT(scope outer:J9):J9:={scope with names:=scope.names.map λ(n,k)=>if(k==.free&&outer.kind==.function&&outer.names.lookup n==ς .cell)then(n,.cell)else(n,k)}
noncomputable def bQ(sc:J9)(N:η Str)(i:Nat)(x:Str):Bool:=decide (N[i]?=ς x)&&(decide (sc.names.lookup x=ς .local)||(decide (sc.names.lookup x=ς .cell)||decide (sc.names.lookup x=ς .free)))&&!(x==("__debug__":Str))&&!(x==("__classdict__":Str))
noncomputable def iX(sc:J9)(x:Str):Bool:=decide (sc.names.lookup x=ς .local)||decide (sc.names.lookup x=ς .cell)
noncomputable def aI(sc:J9)(x:Str):Bool:=decide (sc.names.lookup x=ς .globalImplicit)&&!(x==("__debug__":Str))&&!decide (x=("__name__":Str))
section
variable{sc:J9}{N:η Str}{i:Nat}{x:Str}
theorem fK(h:bQ sc N i x=θ):N[i]?=ς x:=by unfold bQ at h;rwa[qa1,decide_eq_true_eq]at h;exact h.1.1.1
theorem AO(h:bQ sc N i x=θ):Vis sc x:=by unfold bQ at h;rwa[qa1,qf0,decide_eq_true_eq]at h;exact h.1.1.2
theorem AQ(h:bQ sc N i x=θ):(x==("__debug__":Str))=ξ:=by unfold bQ at h;rwa[qa1,qi4]at h;exact h.1.2
theorem Dw(h:bQ sc N i x=θ):(x==("__classdict__":Str))=ξ:=by unfold bQ at h;rwa[qa1,qi4]at h;exact h.2
theorem kf(h:iX sc x=θ):Loc sc x:=by unfold iX at h;rwa[qf0,decide_eq_true_eq]at h;exact h
theorem z5(h:aI sc x=θ):sc.names.lookup x=ς .globalImplicit:=by unfold aI at h;rwa[qa1,decide_eq_true_eq]at h;exact h.1.1
theorem cm(h:aI sc x=θ):(x==("__debug__":Str))=ξ:=by unfold aI at h;rwa[qa1,qi4]at h;exact h.1.2
theorem z4(h:aI sc x=θ):x≠("__name__":Str):=by unfold aI at h;rwa[qa1,qi4,decide_eq_false_iff_not]at h;exact h.2
end
def aY(X:Cx)(sc:J9):Prop:=X.env.scope=sc
section
variable{X:Cx}{sc:J9}{N:η Str}{x:Str}{pos p:Pos}
theorem pvD(i:Nat)(h:bQ sc N i x=θ)(O:aY X sc:=by rfl)(e2:X.N=N:=by rfl):PE X (.Name x pos) (pY i):=by have O:X.env.scope=sc:=O;subst O e2;exact zQ (fK h) (AO h) (AQ h) (Dw h)
theorem glD(h:aI sc x=θ)(O:aY X sc:=by rfl):Gl X x:=by have O:X.env.scope=sc:=O;subst O;exact z5 h
theorem wP{i:Nat}{e:J8}{pos':Pos}(h:bQ sc N i x=θ)(hl:iX sc x=θ)(U:N.Nodup)(W:PE X e te)(O:aY X sc:=by rfl)(e2:X.N=N:=by rfl)(hf:X.fn x=θ\/X.env.scope.names.lookup x=ς .local:=by exact .inl rfl)
 (hs:qi0 e (ς (.Name x pos')) pos.line X.env=pure ξ:=by rfl):PS X (.Assign [.Name x pos'] e pos) (wm te (er i)):=by
 have O:X.env.scope=sc:=O;subst O e2;exact Aa U (fK h) (kf hl) W hs hf
theorem sV{i:Nat}(h:bQ sc N i x=θ)(hl:iX sc x=θ)(U:N.Nodup)(O:aY X sc:=by rfl)(e2:X.N=N:=by rfl)(hf:X.fn x=θ\/X.env.scope.names.lookup x=ς .local:=by exact .inl rfl):PG X (.Name x pos) (er i):=by have O:X.env.scope=sc:=O;subst O e2;exact n9 U (fK h) (kf hl) hf
noncomputable def loOk(sc:J9)(x:Str):Bool:=decide (sc.names.lookup x=ς .local)
theorem sW{i:Nat}(h:bQ sc N i x=θ)(hl:loOk sc x=θ)(U:X.N.Nodup)(O:aY X sc)(e2:X.N=N:=by rfl):PG X (.Name x pos) (er i):=by have O:X.env.scope=sc:=O;subst O e2;have hl:X.env.scope.names.lookup x=ς .local:=of_decide_eq_true hl;exact n9 U (fK h) (.inl hl) (.inr hl)
theorem sX{v:V}(h:aI sc x=θ)(U:∃u,X.mg x=ς u/\RelV v u)(O:aY X sc:=by rfl):PE X (.Name x pos) (tC v):=sU (glD h O) U (cm h)
theorem sY{v:V}{u:Value}(h:aI sc x=θ)(U:X.mg x=ψ)(W:qf5 x=ς u)(r:RelV v u)(O:aY X sc:=by rfl):PE X (.Name x pos) (tC v):=wc (glD h O) U W r (z4 h) (cm h)
variable{e:J8}{es:η J8}{t:TA}{id T:String}{r:η V->Hp->VK->Prop}{k:Nat}{ps:η Str}{sp:Sp}
theorem ju (h:aI sc x=θ) (hc:bR X (.builtin id) r) (hm:X.mg x=ψ) (Z:qf5 x=ς (.builtin id)) (W:PABq X (e::es) t) (U:aY X sc:=by rfl)
  (Y:qb3 (e::es) X.env=(ξ,eval e X.env)::qb3 es X.env:=by rfl) (O:(qh6 pos (qb3 es X.env)).any (·.1)=ξ:=by rfl):PE X (.Call (.Name x p) (e::es) [] pos) (tCB r t):=
 se hc (glD h U) hm Z W (z4 h) (cm h) Y O
theorem dN (h:aI sc x=θ) (hc:bR X (.type T) r) (hm:X.mg x=ψ) (Z:qf5 x=ς (.type T)) (W:PABq X (e::es) t) (U:aY X sc:=by rfl)
  (Y:qb3 (e::es) X.env=(ξ,eval e X.env)::qb3 es X.env:=by rfl) (O:(qh6 pos (qb3 es X.env)).any (·.1)=ξ:=by rfl):PE X (.Call (.Name x p) (e::es) [] pos) (tCB r t):=
 qc hc (glD h U) hm Z W (z4 h) (cm h) Y O
theorem ql (h:aI sc x=θ) (F:OkF X.prog X.w X.K X.mg X.base x k ps sp) (Z:Room k X.A) (W:PABq X (e::es) t) (U:aY X sc:=by rfl)
  (Y:qb3 (e::es) X.env=(ξ,eval e X.env)::qb3 es X.env:=by rfl) (O:(qh6 pos (qb3 es X.env)).any (·.1)=ξ:=by rfl):PE X (.Call (.Name x p) (e::es) [] pos) (jf sp [] E0 t):=
 sQ F Z (glD h U) W (cm h) Y O
theorem m3(h:aI sc x=θ)(F:OkF X.prog X.w X.K X.mg X.base x k ps sp)(O:Room k X.A)(U:aY X sc:=by rfl):PE X (.Call (.Name x p) [] [] pos) (jf sp [] E0 mQ):=qk F O (glD h U) (cm h)
variable{tg a b:J8}{ta:TA}
theorem m4(h:aI sc "range"=θ)(W:X.mg "range"=ψ)(U:PABq X [a] ta)(O:aY X sc:=by rfl)(hs:qb3 [a] X.env=[(ξ,eval a X.env)]:=by rfl):PI X tg (.Call (.Name "range" p) [a] [] pos) (yN ta):=p4 (glD h O) W U hs
end
section
variable{X:Cx}{M:η Str}{scope outer:J9}{C:J4}{s:qa8}{H:Hp}{ex:η J4}{x:Str}{pos p:Pos}
theorem scC(O:aY X outer):aY (cxC X M scope C s H ex) (cT scope outer):=by have O:X.env.scope=outer:=O;subst O;rfl
end
set_option genInjectivity true in
inductive Dt where
 |non|bl (b:Bool)|int (i:Int)|str (x:Str)|t (l:List Dt)|e (l:List Dt)|dct (ks:List Key) (l:List Dt)|dcT (ks:List (List Key)) (l:List Dt)
mutual
noncomputable def peq:Dt->Dt->Bool
 |.non,.non=>θ
 |.bl a,.bl b=>a==b
 |.bl a,.int j=>(if a then(1:Int)else 0)==j
 |.int i,.bl b=>i==(if b then(1:Int)else 0)
 |.int i,.int j=>i==j
 |.str x,.str y=>x==y
 |.t l,.t m=>peqs l m
 |.e l,.e m=>peqs l m
 |.dct ks l,.dct js m=>decide (ks=js)&&peqs l m
 |.dcT ks l,.dcT js m=>decide (ks=js)&&peqs l m
 |_,_=>ξ
noncomputable def peqs:η Dt->η Dt->Bool
 |[],[]=>θ
 |d::l,e::m=>peq d e&&peqs l m
 |_,_=>ξ
end
section
variable{l m:η Dt}{d e:Dt}
theorem pqt:peq (.t l) (.t m)=peqs l m:=rfl
theorem pql:peq (.e l) (.e m)=peqs l m:=rfl
theorem pqc:peqs (d::l) (e::m)=(peq d e&&peqs l m):=rfl
end
mutual
theorem cU:∀d:Dt,peq d d=θ
 |.non=>rfl
 |.bl b=>by cases b<;>rfl
 |.int i=>beq_self_eq_true i
 |.str x=>beq_self_eq_true x
 |.t l=>peqs_selfBq l
 |.e l=>peqs_selfBq l
 |.dct ks l=>qc1.mpr ⟨decide_eq_true rfl,peqs_selfBq l⟩
 |.dcT ks l=>qc1.mpr ⟨decide_eq_true rfl,peqs_selfBq l⟩
theorem peqs_selfBq:∀l:η Dt,peqs l l=θ
 |[]=>rfl
 |d::l=>by show(peq d d&&peqs l l)=θ;rw[cU d,peqs_selfBq l];rfl
end
mutual
noncomputable def cV:Dt->Nat
 |.t l=>deeps l+1
 |.e l=>deeps l+1
 |_=>0
noncomputable def deeps:η Dt->Nat
 |[]=>0
 |d::l=>max (cV d) (deeps l)
end
mutual
def Rep(K:xA9)(H:Hp):Dt->V->Prop
 |.non,v=>v=.non
 |.bl b,v=>v=.bl b
 |.int i,v=>v=.int i
 |.str x,v=>v=.str x
 |.t l,v=>∃a vs,v=.ref a/\SqT K H a vs/\Reps K H l vs
 |.e l,v=>∃a vs,v=.ref a/\SqL K H a vs/\Reps K H l vs
 |.dct ks l,v=>∃a J1,v=.ref a/\Rd H a (.dK J1)/\J1.map (·.1)=ks/\Reps K H l (J1.map (·.2))
 |.dcT ks l,v=>∃a J1,v=.ref a/\Rd H a (.dT J1)/\J1.map (·.1)=ks/\Reps K H l (J1.map (·.2))
def Reps(K:xA9)(H:Hp):η Dt->η V->Prop
 |[],vs=>vs=[]
 |d::l,vs=>∃v ws,vs=v::ws/\Rep K H d v/\Reps K H l ws
end
theorem Same.tup(e:Same H H')(h:SqT K H a xs):SqT K H' a xs:=by
 rcases h with h|h
 .exact .inl (e _ _ h)
 .exact .inr h
theorem Same.rd{u:HO}(e:Same H H')(h:Rd H a u):Rd H' a u:=by
 rcases h with h|⟨o,h⟩
 .exact .inl (e _ _ h)
 .exact .inr ⟨o,e _ _ h⟩
mutual
theorem Rep.same{K:xA9}{H H':Hp}(e:Same H H'):∀{d:Dt}{v:V},Rep K H d v->Rep K H' d v
 |.non,v,h=>h
 |.bl _,v,h=>h
 |.int _,v,h=>h
 |.str _,v,h=>h
 |.t l,v,h=>by unfold Rep at h ⊢;have⟨a,vs,h1,h2,h3⟩:=h;exact⟨a,vs,h1,e.tup h2,Reps.same e h3⟩
 |.e l,v,h=>by unfold Rep at h ⊢;have⟨a,vs,h1,h2,h3⟩:=h;exact⟨a,vs,h1,e.seq h2,Reps.same e h3⟩
 |.dct ks l,v,h=>by unfold Rep at h ⊢;have⟨a,vs,h1,h2,h3,h4⟩:=h;exact⟨a,vs,h1,e.rd h2,h3,Reps.same e h4⟩
 |.dcT ks l,v,h=>by unfold Rep at h ⊢;have⟨a,vs,h1,h2,h3,h4⟩:=h;exact⟨a,vs,h1,e.rd h2,h3,Reps.same e h4⟩
theorem Reps.same{K:xA9}{H H':Hp}(e:Same H H'):∀{l:η Dt}{vs:η V},Reps K H l vs->Reps K H' l vs
 |[],vs,h=>h
 |d::l,vs,h=>by unfold Reps at h ⊢;have⟨v,ws,h1,h2,h3⟩:=h;exact⟨v,ws,h1,Rep.same e h2,Reps.same e h3⟩
end
theorem Reps.length:∀{l:η Dt}{vs:η V},Reps K H l vs->vs.length=l.length
 |[],vs,h=>by unfold Reps at h;rw[h];rfl
 |d::l,vs,h=>by unfold Reps at h;have⟨v,ws,rfl,_,O⟩:=h;simp[Reps.length O]
theorem Reps.get:∀{l:η Dt}{vs:η V}{i:Nat}{d:Dt},Reps K H l vs->l[i]?=ς d->∃v,vs[i]?=ς v/\Rep K H d v
 |[],vs,i,d,h,e=>by simp at e
 |d0::l,vs,0,d,h,e=>by unfold Reps at h;have⟨v,ws,rfl,h2,_⟩:=h;simp at e;subst e;exact⟨v,rfl,h2⟩
 |d0::l,vs,i+1,d,h,e=>by unfold Reps at h;have⟨v,ws,rfl,_,U⟩:=h;have⟨u,O,e2⟩:=Reps.get (i:=i) U ‹e›;exact⟨u,‹O›,e2⟩
theorem Reps.append:∀{l m:η Dt}{vs ws:η V},Reps K H l vs->Reps K H m ws->Reps K H (l++m) (vs++ws)
 |[],m,vs,ws,h,h'=>by unfold Reps at h;rw[h];exact h'
 |d::l,m,vs,ws,h,h'=>by unfold Reps at h;have⟨v,us,rfl,h2,O⟩:=h;show Reps K H (d::(l++m)) (v::(us++ws));unfold Reps;exact⟨v,_,rfl,h2,Reps.append O h'⟩
theorem Reps.one{d:Dt}{v:V}(h:Rep K H d v):Reps K H [d] [v]:=by unfold Reps;exact⟨v,[],rfl,h,by unfold Reps;rfl⟩
theorem Reps.take:∀{l:η Dt}{vs:η V}(n:Nat),Reps K H l vs->Reps K H (l.take n) (vs.take n)
 |_,_,0,_=>by simp[Reps]
 |[],vs,n+1,h=>by unfold Reps at h;rw[h];simp[Reps]
 |d::l,vs,n+1,h=>by unfold Reps at h;have⟨v,us,rfl,h2,O⟩:=h;show Reps K H (d::l.take n) (v::us.take n);unfold Reps;exact⟨v,_,rfl,h2,Reps.take n O⟩
theorem Reps.drop:∀{l:η Dt}{vs:η V}(n:Nat),Reps K H l vs->Reps K H (l.drop n) (vs.drop n)
 |_,_,0,h=>h
 |[],vs,n+1,h=>by unfold Reps at h;rw[h];simp[Reps]
 |d::l,vs,n+1,h=>by unfold Reps at h;have⟨v,us,rfl,h2,O⟩:=h;exact Reps.drop n O
variable{u:η (Key×V)}
section
variable{X:Cx}{J0:η (J4×Obj)}{σ:St}{H:Hp}{s:qa8}{K:xA9}
theorem Inv.notBoth{ys:η V}(I:Inv X J0 σ H s)(h:SqL X.K H a xs)(h':SqT X.K H a ys):False:=by have⟨J3,r,pl,_⟩:=I.list h;have⟨its',W,pt,_⟩:=I.tuple h';have⟨o,n,e,hc,_⟩:=pl;have⟨o',U,O,_⟩:=pt;rw[e]at U;cases U;rw[hc]at O;injection O with z;exact absurd z Ω
theorem Dx{w:η (Key×V)}(h:Rd H a (.dK u))(h':Rd H a (.dK w)):u=w:=by rcases h with h|⟨o,h⟩<;>rcases h' with h'|⟨o',h'⟩<;>rw[h]at h'<;>cases h'<;>rfl
theorem Dy{u w:η (η Key×V)}(h:Rd H a (.dT u))(h':Rd H a (.dT w)):u=w:=by rcases h with h|⟨o,h⟩<;>rcases h' with h'|⟨o',h'⟩<;>rw[h]at h'<;>cases h'<;>rfl
theorem gw{u:HO}(h:Rd H a u):∃o,H a=ς o:=by
 rcases h with h|⟨o,h⟩
 .exact⟨_,h⟩
 .exact⟨_,h⟩
theorem Inv.kNone(I:Inv X J0 σ H s){o:Obj}(h:X.K.lookup a=ς o):H a=ψ:=(I.bs a o (I.ok.mod.kin a o h)).2
theorem Inv.sqT_dK(I:Inv X J0 σ H s)(h:SqT X.K H a xs)(h':Rd H a (.dK u)):False:=by
 rcases h with h|⟨o,_,_,h,_⟩
 .rcases h' with h'|⟨o',h'⟩<;>rw[h]at h'<;>cases h'
 .have⟨o',e⟩:=gw h';rw[I.kNone h]at e;cases e
theorem Inv.sqT_dT(I:Inv X J0 σ H s){u:η (η Key×V)}(h:SqT X.K H a xs)(h':Rd H a (.dT u)):False:=by
 rcases h with h|⟨o,_,_,h,_⟩
 .rcases h' with h'|⟨o',h'⟩<;>rw[h]at h'<;>cases h'
 .have⟨o',e⟩:=gw h';rw[I.kNone h]at e;cases e
theorem Inv.sqL_dK(I:Inv X J0 σ H s)(h:SqL X.K H a xs)(h':Rd H a (.dK u)):False:=by
 rcases h with h|⟨o,_,_,h,_⟩
 .rcases h with h|⟨o,h⟩<;>rcases h' with h'|⟨o',h'⟩<;>rw[h]at h'<;>cases h'
 .have⟨o',e⟩:=gw h';rw[I.kNone h]at e;cases e
theorem Inv.sqL_dT(I:Inv X J0 σ H s){u:η (η Key×V)}(h:SqL X.K H a xs)(h':Rd H a (.dT u)):False:=by
 rcases h with h|⟨o,_,_,h,_⟩
 .rcases h with h|⟨o,h⟩<;>rcases h' with h'|⟨o',h'⟩<;>rw[h]at h'<;>cases h'
 .have⟨o',e⟩:=gw h';rw[I.kNone h]at e;cases e
theorem sZ{w:η (η Key×V)}(h:Rd H a (.dK u))(h':Rd H a (.dT w)):False:=by rcases h with h|⟨o,h⟩<;>rcases h' with h'|⟨o',h'⟩<;>rw[h]at h'<;>cases h'
noncomputable def aQ:Dt->Nat
 |.non=>0
 |.bl _=>1
 |.int _=>2
 |.str _=>3
 |.t _=>4
 |.e _=>5
 |.dct _ _=>6
 |.dcT _ _=>7
theorem br(I:Inv X J0 σ H s){d e:Dt}{v:V}(h:Rep X.K H d v)(h':Rep X.K H e v):aQ d=aQ e:=by
 cases d<;>cases e<;>first
  |rfl
  |(rwa[Rep]at h h';subst h;cases h';done)
  |(rwa[Rep]at h h';have⟨_,_,e,_⟩:=h';rw[h]at e;cases e;done)
  |(rwa[Rep]at h h';have⟨_,_,e,_⟩:=h;rw[h']at e;cases e;done)
  | (rwa[Rep]at h h';have⟨_,_,rfl,h2,_⟩:=h;have⟨_,_,e,O,_⟩:=h';cases e
     first
      |exact(I.sqT_dK h2 O).elim
      |exact(I.sqT_dK O h2).elim
      |exact(I.sqT_dT h2 O).elim
      |exact(I.sqT_dT O h2).elim
      |exact(I.notBoth h2 O).elim
      |exact(I.notBoth O h2).elim
      |exact(I.sqL_dK h2 O).elim
      |exact(I.sqL_dK O h2).elim
      |exact(I.sqL_dT h2 O).elim
      |exact(I.sqL_dT O h2).elim
      |exact(sZ h2 O).elim
      |exact(sZ O h2).elim)
mutual
theorem kg(I:Inv X J0 σ H s):∀(d e:Dt)(v:V),Rep X.K H d v->Rep X.K H e v->peq d e=θ:=λd=>by
 match d with
 |.t l=>
  intro e v h h';have hk:=br I h h';cases e<;>first|(simp[aQ]at hk;done)|skip
  rwa[Rep]at h h';have⟨a,vs,rfl,h2,h3⟩:=h;have⟨b,ws,e,h2',h3'⟩:=h';cases e;have:=I.tuple_inj h2 h2';subst this;exact reps_inj I l _ _ h3 h3'
 |.e l=>
  intro e v h h';have hk:=br I h h';cases e<;>first|(simp[aQ]at hk;done)|skip
  rwa[Rep]at h h';have⟨a,vs,rfl,h2,h3⟩:=h;have⟨b,ws,e,h2',h3'⟩:=h';cases e;have:=I.list_inj h2 h2';subst this;exact reps_inj I l _ _ h3 h3'
 |.dct ks l=>
  intro e v h h';have hk:=br I h h';cases e<;>first|(simp[aQ]at hk;done)|skip
  rwa[Rep]at h h';have⟨a,vs,rfl,h2,h3,h4⟩:=h;have⟨b,ws,e,h2',h3',h4'⟩:=h';cases e;have:=Dx h2 h2';subst this;subst h3 h3';exact qc1.mpr ⟨decide_eq_true rfl,reps_inj I l _ _ h4 h4'⟩
 |.dcT ks l=>
  intro e v h h';have hk:=br I h h';cases e<;>first|(simp[aQ]at hk;done)|skip
  rwa[Rep]at h h';have⟨a,vs,rfl,h2,h3,h4⟩:=h;have⟨b,ws,e,h2',h3',h4'⟩:=h';cases e;have:=Dy h2 h2';subst this;subst h3 h3';exact qc1.mpr ⟨decide_eq_true rfl,reps_inj I l _ _ h4 h4'⟩
 |.non=>intro e v h h';have hk:=br I h h';cases e<;>first|(simp[aQ]at hk;done)|rfl
 |.bl b=>intro e v h h';have hk:=br I h h';cases e<;>first|(simp[aQ]at hk;done)|(rwa[Rep]at h h';rw[h]at h';cases h';exact cU _)
 |.int b=>intro e v h h';have hk:=br I h h';cases e<;>first|(simp[aQ]at hk;done)|(rwa[Rep]at h h';rw[h]at h';cases h';exact cU _)
 |.str b=>intro e v h h';have hk:=br I h h';cases e<;>first|(simp[aQ]at hk;done)|(rwa[Rep]at h h';rw[h]at h';cases h';exact cU _)
theorem reps_inj(I:Inv X J0 σ H s):∀(l m:η Dt)(vs:η V),Reps X.K H l vs->Reps X.K H m vs->peqs l m=θ:=λl=>by
 match l with
 |[]=>
  intro m vs h h';cases m with
  |nil=>rfl
  |cons e m=>unfold Reps at h h';have⟨v,ws,e,_⟩:=h';rw[h]at e;cases e
 |d::l=>
  intro m vs h h';cases m with
  |nil=>unfold Reps at h h';have⟨v,ws,e,_⟩:=h;rw[h']at e;cases e
  |cons e m=>unfold Reps at h h';have⟨v,ws,rfl,h2,h3⟩:=h;have⟨v',ws',e',h2',h3'⟩:=h';cases e';rw[pqc,kg I d _ _ h2 h2',reps_inj I l _ _ h3 h3'];rfl
end
end
end L2
namespace L2
open PySem PySem.Spec PyProof.Rows
mutual
def bJ:Dt->Dt->Bool
 |.t l,.t m=>cmpbs l m
 |.e l,.e m=>cmpbs l m
 |d,e=>decide (aQ d<4)&&decide (aQ e<4)
def cmpbs:η Dt->η Dt->Bool
 |d::l,e::m=>bJ d e&&cmpbs l m
 |_,_=>θ
end
theorem bV:∀{l m:η Dt}{j:Nat}{d e:Dt},cmpbs l m=θ->l[j]?=ς d->m[j]?=ς e->bJ d e=θ
 |[],_,j,d,e,_,h,_=>by simp at h
 |_::_,[],j,d,e,_,_,h=>by simp at h
 |d0::l,O::m,0,d,e,h,h1,h2=>by rwa[cmpbs,qa1]at h;simp at h1 h2;subst h1 h2;exact h.1
 |d0::l,O::m,j+1,d,e,h,h1,h2=>by rwa[cmpbs,qa1]at h;exact bV (j:=j) h.2 ‹h1› ‹h2›
theorem cW:∀{l:η Dt}{j:Nat}{d:Dt},l[j]?=ς d->cV d<=deeps l
 |[],j,d,h=>by simp at h
 |d0::l,0,d,h=>by simp at h;subst h;rwa[deeps];exact Nat.le_max_left ..
 |d0::l,j+1,d,h=>by rwa[deeps];exact qd7 (cW (j:=j) ‹h›) (Nat.le_max_right ..)
def aR(l m:η Dt)(j:Nat):Bool:=peq (l.getD j .non) (m.getD j .non)
theorem bK:∀(l m:η Dt),peqs l m=((qd9 (min l.length m.length)).all (aR l m)&&l.length==m.length)
 |[],[]=>rfl
 |[],_::_=>rfl
 |_::_,[]=>by show ξ=_;simp
 |d::l,e::m=>by
  have U:=bK l m;rwa[pqc,U,qc2];rw[show min (l.length+1) (m.length+1)=min l.length m.length+1 by lia,za3,qd4,zf4];have O:aR (d::l) (e::m) 0=peq d e:=rfl
  have e2:(aR (d::l) (e::m) ∘ Nat.succ)=aR l m:=by funext j;rfl
  have W:(l.length+1==m.length+1)=(l.length==m.length):=by rw[qr7];simp
  rw[O,e2,W,qx1]
variable{K:xA9}
section
variable{X:Cx}{J0:η (J4×Obj)}{σ:St}{H:Hp}{s:qa8}
theorem aW{l:η Dt}{vs:η V}{J3:η Value}(h:Reps X.K H l vs)(r:Vals vs J3){j:Nat}(U:j<J3.length):∃d v,l[j]?=ς d/\Rep X.K H d v/\RelV v J3[j]:=by
 have hl:j<l.length:=by rw[<- h.length,r.length];exact U
 have⟨v,W,e2⟩:=h.get (i:=j) (d:=l[j]) (by simp[hl]);have⟨u,O,Y⟩:=r.get W
 have:J3[j]=u:=by have:=gQ U;rw[this]at O;exact qd5 O
 exact⟨l[j],v,by simp[hl],e2,by rw[this];exact Y⟩
theorem yW(I:Inv X J0 σ H s):∀(n:Nat){A:ql0}{d e:Dt}{v w:V}{u u':Value},cV d<=n->A.units+n<cLine->bJ d e=θ->Rep X.K H d v->Rep X.K H e w->RelV v u->RelV w u'->qf1 A s u u' (peq d e):=by
 intro n;induction n with
 |zero=>
  intro A d e v w u u' hd hu hc h h' r r'
  cases d<;>cases e<;>first
   |(rwa[Rep]at h h';subst h h';exact fG r r' rfl rfl)
   |(rwa[cV]at hd;lia)
   |(simp[bJ,aQ]at hc)
 |succ n ih=>
  intro A d e v w u u' hd hu hc h h' r r';cases d with
  |t l=>
   cases e with
   |t m=>
    have h0:=h;have h0':=h';rwa[Rep]at h h';have⟨a,vs,rfl,h2,h3⟩:=h;have⟨b,ws,rfl,O,Y⟩:=h';cases r;cases r';by_cases W:a=b
    .subst W;have:=kg I _ _ _ h0 h0';rw[this];exact zb6 _
    have⟨J3,rv,pt,_⟩:=I.tuple h2;have⟨its',rv',pt',_⟩:=I.tuple O;have n1:J3.length=l.length:=by rw[<- h3.length,rv.length]
    have n2:its'.length=m.length:=by rw[<- Y.length,rv'.length]
    rwa[pqt,pql];rw[bK,<- n1,<- n2];rwa[cV]at hd;rwa[bJ]at hc
    have key:=qy1.tuples (A:=A) (e:=aR l m) pt pt' Θ (λj h1 h2=>by
     have h1':j<J3.length:=‹h1›
     have O:j<its'.length:=‹h2›
     have⟨d,v,g1,g2,g3⟩:=aW h3 rv h1';have⟨e,w,Z,g2',g3'⟩:=aW Y rv' O;have:aR l m j=peq d e:=by unfold aR;rw[qc6,qc6,g1,Z];rfl
     rw[this];have:=ih (A:=A.in1) (qd7 (cW g1) Θ) (show A.units+1+n<cLine by lia) (bV hc g1 Z) g2 g2' g3 g3';simpa using this)
    have key':qy1 A s (.ref a) (.ref b) ((qd9 (min J3.length its'.length)).all (aR l m)&&J3.length==its'.length):=‹key›
    exact qw4 W key'
   |_=>exact absurd hc (by simp[bJ,aQ])
  |e l=>
   cases e with
   |e m=>
    have h0:=h;have h0':=h';rwa[Rep]at h h';have⟨a,vs,rfl,h2,h3⟩:=h;have⟨b,ws,rfl,O,Y⟩:=h';cases r;cases r';by_cases W:a=b
    .subst W;have:=kg I _ _ _ h0 h0';rw[this];exact zb6 _
    have⟨J3,rv,pt,_⟩:=I.list h2;have⟨its',rv',pt',_⟩:=I.list O;have n1:J3.length=l.length:=by rw[<- h3.length,rv.length]
    have n2:its'.length=m.length:=by rw[<- Y.length,rv'.length]
    rwa[pqt,pql];rw[bK,<- n1,<- n2];rwa[cV]at hd;rwa[bJ]at hc;by_cases U:J3.length=its'.length
    .have key:=qy1.lists (A:=A) (e:=aR l m) pt.isList pt'.isList ‹U› Θ (λj h1 h2=>by
      have h1':j<J3.length:=‹h1›
      have O:j<its'.length:=‹h2›
      have⟨d,v,g1,g2,g3⟩:=aW h3 rv h1';have⟨e,w,Z,g2',g3'⟩:=aW Y rv' O;have:aR l m j=peq d e:=by unfold aR;rw[qc6,qc6,g1,Z];rfl
      rw[this];have:=ih (A:=A.in1) (qd7 (cW g1) Θ) (show A.units+1+n<cLine by lia) (bV hc g1 Z) g2 g2' g3 g3';simpa using this)
     have e1:(J3.length==its'.length)=θ:=‹U›
     rw[e1,qn1,show min J3.length its'.length=J3.length by lia];exact qw4 W ‹key›
    .have e1:(J3.length==its'.length)=ξ:=‹U›
     rw[e1,zd1];exact qw4 W (qy2 pt.isList pt'.isList ‹U› Θ)
   |_=>exact absurd hc (by simp[bJ,aQ])
  |non=>cases e<;>first|(rwa[Rep]at h h';subst h h';exact fG r r' rfl rfl)|(simp[bJ,aQ]at hc)
  |bl b=>cases e<;>first|(rwa[Rep]at h h';subst h h';exact fG r r' rfl rfl)|(simp[bJ,aQ]at hc)
  |int b=>cases e<;>first|(rwa[Rep]at h h';subst h h';exact fG r r' rfl rfl)|(simp[bJ,aQ]at hc)
  |str b=>cases e<;>first|(rwa[Rep]at h h';subst h h';exact fG r r' rfl rfl)|(simp[bJ,aQ]at hc)
  |dct ks l=>cases e<;>(simp[bJ,aQ]at hc)
  |dcT ks l=>cases e<;>(simp[bJ,aQ]at hc)
theorem yX (I:Inv X J0 σ H s) {A:ql0} {d e:Dt} {v w:V} {u u':Value} (hq:(∃ l m,d=.t l/\e=.t m)\/∃ l m,d=.e l/\e=.e m) (hu:A.units+cV d<cLine) (hc:bJ d e=θ) (h:Rep X.K H d v) (h':Rep X.K H e w) (r:RelV v u) (r':RelV w u') :
  qy1 A s u u' (peq d e)/\zb9 A s u u' (!peq d e):=by
 rcases hq with ⟨l,m,rfl,rfl⟩|⟨l,m,rfl,rfl⟩
 .rwa[Rep]at h h';have⟨a,vs,rfl,h2,h3⟩:=h;have⟨b,ws,rfl,U,h3'⟩:=h';cases r;cases r';have⟨J3,rv,pt,_⟩:=I.tuple h2;have⟨its',Z,W,_⟩:=I.tuple U;have n1:J3.length=l.length:=by rw[<- h3.length,rv.length]
  have n2:its'.length=m.length:=by rw[<- h3'.length,Z.length]
  rwa[pqt,pql];rw[bK,<- n1,<- n2];rwa[cV]at hu;rwa[bJ]at hc
  have he:∀j (h1:j<J3.toArray.size)(h2:j<its'.toArray.size),qf1 A.in1 s J3.toArray[j] its'.toArray[j] (aR l m j):=λj h1 h2=>by
   have h1':j<J3.length:=‹h1›
   have U:j<its'.length:=‹h2›
   have⟨d,v,g1,g2,g3⟩:=aW h3 rv h1';have⟨e,w,Y,g2',g3'⟩:=aW h3' Z U;have:aR l m j=peq d e:=by unfold aR;rw[qc6,qc6,g1,Y];rfl
   rw[this];have:=yW I (deeps l) (A:=A.in1) (cW g1) (show A.units+1+deeps l<cLine by lia) (bV hc g1 Y) g2 g2' g3 g3';simpa using this
  exact⟨‹qy1.tuples (A:=A) (e:=aR l m) pt W Θ he›,‹zb9.tuples (A:=A) (e:=aR l m) pt W Θ he›⟩
 .rwa[Rep]at h h';have⟨a,vs,rfl,h2,h3⟩:=h;have⟨b,ws,rfl,U,h3'⟩:=h';cases r;cases r';have⟨J3,rv,pt,_⟩:=I.list h2;have⟨its',Z,W,_⟩:=I.list U;have n1:J3.length=l.length:=by rw[<- h3.length,rv.length]
  have n2:its'.length=m.length:=by rw[<- h3'.length,Z.length]
  rwa[pqt,pql];rw[bK,<- n1,<- n2];rwa[cV]at hu;rwa[bJ]at hc;by_cases O:J3.length=its'.length
  .have he:∀j (h1:j<J3.toArray.size)(h2:j<its'.toArray.size),qf1 A.in1 s J3.toArray[j] its'.toArray[j] (aR l m j):=λj h1 h2=>by
    have h1':j<J3.length:=‹h1›
    have U:j<its'.length:=‹h2›
    have⟨d,v,g1,g2,g3⟩:=aW h3 rv h1';have⟨e,w,Y,g2',g3'⟩:=aW h3' Z U;have:aR l m j=peq d e:=by unfold aR;rw[qc6,qc6,g1,Y];rfl
    rw[this];have:=yW I (deeps l) (A:=A.in1) (cW g1) (show A.units+1+deeps l<cLine by lia) (bV hc g1 Y) g2 g2' g3 g3';simpa using this
   have e1:(J3.length==its'.length)=θ:=‹O›
   rw[e1,qn1,show min J3.length its'.length=J3.length by lia];exact⟨by simpa using qy1.lists (A:=A) (e:=aR l m) pt.isList W.isList ‹O› Θ he,by simpa using zb9.lists (A:=A) (e:=aR l m) pt.isList W.isList ‹O› Θ he⟩
  .have e1:(J3.length==its'.length)=ξ:=‹O›
   rw[e1,zd1];exact⟨qy2 pt.isList W.isList ‹O› Θ,zb9.lists_lengths pt.isList W.isList ‹O› Θ⟩
def wQ(K:xA9)(O:Bool):R2:=λx y H Q=>∃d e,((∃l m,d=.t l/\e=.t m)\/∃l m,d=.e l/\e=.e m)/\Rep K H d x/\Rep K H e y/\bJ d e=θ/\cV d<=60/\Q (.bl (if O then !peq d e else peq d e)) H
theorem AR{k:Nat}(hr:Room k X.A)(hK:X.K=K):OpR X (qe7 .Eq) (wQ K ξ):=by subst hK;intro J0 s σ H x y v u Q I Y W h;have⟨d,e,hq,U,O,hc,Z,q⟩:=h;have hu:=hr.units;exact(yX I hq Θ hc U O Y W).1 _ _ _ _ ⟨.bl (peq d e),H,I,rfl,q⟩
theorem AS{k:Nat}(hr:Room k X.A)(hK:X.K=K):OpR X (qe7 .NotEq) (wQ K θ):=by subst hK;intro J0 s σ H x y v u Q I Y W h;have⟨d,e,hq,U,O,hc,Z,q⟩:=h;have hu:=hr.units;exact(yX I hq Θ hc U O Y W).2 _ _ _ _ ⟨.bl (!peq d e),H,I,rfl,q⟩
end
end L2
namespace L2
open PySem PySem.Spec
noncomputable abbrev vtl:η Value:=[.type "ValueError",.type "Exception",.type "BaseException",.type "object"]
structure XCl(K:xA9)(C D f:J4):Prop where
 obj:∃dd nm bs ns qn sn sub ab col k0 k1 k2 k3 k5,K.lookup C=ς (excClassObj nm qn C ns bs (.ref D::vtl) θ sn sub ab col dd k0 k1 k2 k3 k5 "ValueError.__new__")
 init:xB9 K (.ref C) "__init__"=ς (ς (.ref f))
 fn:xH9 K (.ref f)=θ
 sa:xB9 K (.ref C) "__setattr__"=ς (ς (.builtin "object.__setattr__"))
 ga:xB9 K (.ref C) "__getattribute__"=ς (ς (.builtin "BaseException.__getattribute__"))
 gn:xB9 K (.ref C) "__getattr__"=ς ψ
 kp:xD9 K (.ref C)=θ
open PySem PySem.Spec PyProof.Rows
def xcP(x C dx:J4)(h:Heap):Prop:=∃o vs,h.get? x=ς o/\o.cls=.ref C/\o.dict=ς dx/\o.data=.fields vs
def xdP(dx:J4)(fs:η (Str×V))(h:Heap):Prop:=∃mA,h.Ns1 dx mA/\(∀f,RelO (fs.lookup f) (mA f))/\PySem.Within mA (fs.map (·.1))
noncomputable abbrev XC(x C dx:J4):HO:=.ext (xcP x C dx)
noncomputable abbrev XD(dx:J4)(fs:η (Str×V)):HO:=.ext (xdP dx fs)
section
variable{P:qe5}{w:J5}{K:xA9}{mg:Str->ζ Value}{base:Heap}{N:η Str}{qual:Str}{scope:J9}{f:J4}{cd:Value}{A:ql0}{outer:η Env}{s s1:qa8}{H H1:Hp}{E:XK}
 {J0:η (J4×Obj)} {σ:St} {x C dx:J4} {B:Heap}
end
section
variable{X:Cx}{P:qe5}{w:J5}{K:xA9}{mg:Str->ζ Value}{base:Heap}{N:η Str}{qual:Str}{scope:J9}{fa:J4}{cd:Value}{A:ql0}{outer:η Env}{s:qa8}{H:Hp}{E:XK}
 {k:Nat} {f C D:J4} {fd:qm9} {ps ns:η Str} {x:Str} {p pos pos':Pos} {e:J8} {es:η J8} {t:TA}
end
abbrev NT(o:HO):Prop:=∀vs,o≠.t vs
structure Step(F H F' H':Hp):Prop where
 hh:Same H H'
 ff:Same F F'
 fh:Same F' H'
 nw:∀b o,F' b=ς o->F b=ς o\/H b=ψ\/∃vs,H b=ς (.t vs)
section
variable{F H F' H' F1 H1:Hp}{p:J4}{o:HO}
theorem Step.refl(h:Same F H):Step F H F H:=⟨Same.refl _,Same.refl _,h,λ_ _ e=>.inl e⟩
theorem Step.trans(a:Step F H F1 H1)(b:Step F1 H1 F' H'):Step F H F' H':=
 ⟨a.hh.trans b.hh,a.ff.trans b.ff,b.fh,λc o e=>by
  rcases b.nw c o e with z|z|⟨vs,z⟩
  .exact a.nw c o z
  .exact .inr (.inl (a.hh.free z))
  .cases q:H c with
   |none=>exact .inr (.inl rfl)
   |some u=>have:=a.hh c u q;rw[z]at this;cases this;exact .inr (.inr ⟨vs,rfl⟩)⟩
theorem Same.upd(hp:H p=ψ):Same H (upd H p o):=λb u e=>by rw[ah (aE e hp)];exact e
theorem Step.new(h:Same F H)(hp:H p=ψ):Step F H (upd F p o) (upd H p o) where
 hh:=Same.upd hp
 ff:=Same.upd (h.free hp)
 fh:=λb u e=>by
  by_cases hb:b=p
  .subst hb;rw[af]at e ⊢;exact e
  .rw[ah hb]at e ⊢;exact h _ _ e
 nw:=λb u e=>by
  by_cases hb:b=p
  .subst hb;exact .inr (.inl hp)
  .rw[ah hb]at e;exact .inl e
theorem Step.made(h:Same F H)(hp:H p=ψ):Step F H F (upd H p o) where
 hh:=Same.upd hp
 ff:=Same.refl _
 fh:=h.trans (Same.upd hp)
 nw:=λb u e=>.inl e
end
noncomputable def yY(K:xA9)(c:Str):ζ J4:=match xE9 K qe6 c with
 |some (ς (.ref C))=>ς C
 |_=>ψ
def RepX(K:xA9)(F:Hp)(c:Str)(l:η (Str×Dt))(v:V):Prop:=∃x C D f dx vs,v=.ref x/\yY K c=ς C/\yY K "DimError"=ς D/\XCl K C D f/\(∀g∈l.map (·.1),NoAttr K C g)∧F x=ς (XC x C dx)/\F dx=ς (XD dx ((l.map (·.1)).zip vs))/\Reps K F (l.map (·.2)) vs
variable{K:xA9}{F':Hp}
theorem RepX.same{F:Hp}{c:Str}{l:η (Str×Dt)}{v:V}(O:Same F F')(h:RepX K F c l v):RepX K F' c l v:=by have⟨x,C,D,f,dx,vs,e,h1,h2,Y,h4,W,U,Z⟩:=h;exact⟨x,C,D,f,dx,vs,e,h1,h2,Y,h4,O _ _ W,O _ _ U,Z.same O⟩
set_option genInjectivity true in
inductive T where
 |f (d:Dt)|e (l:List Dt)|dct (l:List (Key×Dt))|dcT (l:List (List Key×Dt))|fn (a:J4) (F0:Hp)|exc (c:Str) (l:List (Str×Dt))|rse (c:Str) (l:List (Str×Dt))
noncomputable def T.d:T->ζ Dt
 |.f d=>ς d
 |.e l=>ς (.e l)
 |.dct l=>ς (.dct (l.map (·.1)) (l.map (·.2)))
 |.dcT l=>ς (.dcT (l.map (·.1)) (l.map (·.2)))
 |.fn _ _|.exc _ _|.rse _ _=>ψ
noncomputable def T.own:T->Bool
 |.f _|.fn _ _|.exc _ _|.rse _ _=>ξ
 |_=>θ
def Own(K:xA9)(F H:Hp):T->V->(J4->Prop)->Prop
 |.f d,v,_=>Rep K F d v
 |.e l,v,S=>∃a vs,v=.ref a/\S a/\H a=ς (.e vs)/\Reps K F l vs
 |.dct l,v,S=>∃a J1,v=.ref a/\S a/\H a=ς (.dK J1)/\J1.map (·.1)=l.map (·.1)/\Reps K F (l.map (·.2)) (J1.map (·.2))
 |.dcT l,v,S=>∃a J1,v=.ref a/\S a/\H a=ς (.dT J1)/\J1.map (·.1)=l.map (·.1)/\Reps K F (l.map (·.2)) (J1.map (·.2))
 |.fn a F0,v,_=>v=.ref a/\Same F0 F
 |.exc c l,v,_=>RepX K F c l v
 |.rse _ _,_,_=>False
def RepB(K:xA9)(F H:Hp):Dt->V->Prop
 |.e l,v=>∃a vs,v=.ref a/\SqL K H a vs/\Reps K F l vs
 |.dct ks l,v=>∃a J1,v=.ref a/\Rd H a (.dK J1)/\J1.map (·.1)=ks/\Reps K F l (J1.map (·.2))
 |.dcT ks l,v=>∃a J1,v=.ref a/\Rd H a (.dT J1)/\J1.map (·.1)=ks/\Reps K F l (J1.map (·.2))
 |.non,v=>v=.non
 |.bl b,v=>v=.bl b
 |.int i,v=>v=.int i
 |.str x,v=>v=.str x
 |.t l,v=>∃a vs,v=.ref a/\SqT K F a vs/\Reps K F l vs
section
variable{K:xA9}{F H F' H':Hp}{t:T}{v:V}{d:Dt}{S:J4->Prop}
theorem Own.step(O:Same F F')(W:∀b o,S b->H b=ς o->H' b=ς o)(h:Own K F H t v S):Own K F' H' t v S:=by
 induction t with
 |f d=>exact Rep.same O h
 |e l=>have⟨a,vs,e,hs,h1,h2⟩:=h;exact⟨a,vs,e,hs,W _ _ hs h1,h2.same O⟩
 |dct l=>have⟨a,vs,e,hs,h1,h2,U⟩:=h;exact⟨a,vs,e,hs,W _ _ hs h1,h2,U.same O⟩
 |dcT l=>have⟨a,vs,e,hs,h1,h2,U⟩:=h;exact⟨a,vs,e,hs,W _ _ hs h1,h2,U.same O⟩
 |fn a F0=>exact⟨h.1,h.2.trans O⟩
 |exc c l=>exact RepX.same O h
 |rse c l=>exact h
theorem RepB.of(fh:Same F H)(h:Rep K F d v):RepB K F H d v:=by
 cases d with
 |e l=>rwa[Rep]at h;have⟨a,vs,e,h1,h2⟩:=h;exact⟨a,vs,e,fh.seq h1,h2⟩
 |dct ks l=>rwa[Rep]at h;have⟨a,vs,e,h1,h2⟩:=h;exact⟨a,vs,e,fh.rd h1,h2⟩
 |dcT ks l=>rwa[Rep]at h;have⟨a,vs,e,h1,h2⟩:=h;exact⟨a,vs,e,fh.rd h1,h2⟩
 |t l=>rwa[Rep]at h;exact h
 |_=>rwa[Rep]at h;exact h
theorem RepB.rep(fh:Same F H)(h:RepB K F H d v):Rep K H d v:=by
 cases d with
 |e l=>have⟨a,vs,e,h1,h2⟩:=h;rwa[Rep];exact⟨a,vs,e,h1,h2.same fh⟩
 |dct ks l=>have⟨a,vs,e,h1,h2,O⟩:=h;rwa[Rep];exact⟨a,vs,e,h1,h2,O.same fh⟩
 |dcT ks l=>have⟨a,vs,e,h1,h2,O⟩:=h;rwa[Rep];exact⟨a,vs,e,h1,h2,O.same fh⟩
 |t l=>have⟨a,vs,e,h1,h2⟩:=h;rwa[Rep];exact⟨a,vs,e,fh.tup h1,h2.same fh⟩
 |_=>rwa[Rep];exact h
theorem Own.repB(fh:Same F H)(h:Own K F H t v S)(O:t.d=ς d):RepB K F H d v:=by
 cases t with
 |f d=>cases O;exact RepB.of fh h
 |e l=>cases O;have⟨a,vs,e,_,h1,h2⟩:=h;exact⟨a,vs,e,SqL.of h1,h2⟩
 |dct l=>cases O;have⟨a,vs,e,_,h1,h2⟩:=h;exact⟨a,vs,e,.inl h1,h2⟩
 |dcT l=>cases O;have⟨a,vs,e,_,h1,h2⟩:=h;exact⟨a,vs,e,.inl h1,h2⟩
 |fn a F0=>cases O
 |exc c l=>cases O
 |rse c l=>cases O
open Classical in
def kh(F H:Hp)(S:J4->Prop):Hp:=λb=>if S b then H b else F b
theorem gx{b:J4}(h:S b):kh F H S b=H b:=if_pos h
theorem eF{b:J4}(h:¬ S b):kh F H S b=F b:=if_neg h
theorem ki(hs:∀b,S b->F b=ψ):Same F (kh F H S):=λb o e=>by
 have:¬ S b:=λz=>by rw[hs b z]at e;cases e
 rw[eF this];exact e
theorem oB(fh:Same F H):Same (kh F H S) H:=λb o e=>by
 by_cases h:S b
 .rw[gx h]at e;exact e
 .rw[eF h]at e;exact fh _ _ e
theorem Own.freeze(hs:∀b,S b->F b=ψ)(h:Own K F H t v S)(O:t.d=ς d):Rep K (kh F H S) d v:=by
 have U:=ki (H:=H) hs;cases t with
 |f d=>cases O;exact Rep.same U h
 |e l=>cases O;have⟨a,vs,e,q,h1,h2⟩:=h;rwa[Rep];exact⟨a,vs,e,SqL.of (by rw[gx q];exact h1),h2.same U⟩
 |dct l=>cases O;have⟨a,vs,e,q,h1,h2,W⟩:=h;rwa[Rep];exact⟨a,vs,e,.inl (by rw[gx q];exact h1),h2,W.same U⟩
 |dcT l=>cases O;have⟨a,vs,e,q,h1,h2,W⟩:=h;rwa[Rep];exact⟨a,vs,e,.inl (by rw[gx q];exact h1),h2,W.same U⟩
 |fn a F0=>cases O
 |exc c l=>cases O
 |rse c l=>cases O
end
abbrev De:=η (ζ T)
variable{a:J4}
section
variable{Φ:Fm}{δ:De}{σ:St}{F H F' H':Hp}
theorem aD{α:Type}{l:η (ζ α)}{i j:Nat}{x y:ζ α}(h:(l.set i x)[j]?=ς y):(i=j/\y=x)\/(i≠j/\l[j]?=ς y):=by
 by_cases O:i=j
 .subst O;left;rw[List.getElem?_set]at h;rwa[if_true]at h;split at h
  .cases h;exact⟨rfl,rfl⟩
  .cases h
 .right;rw[gN O]at h;exact⟨O,h⟩
theorem qm{t:T}{S:J4->Prop}(O:t.own=θ)(h:Own K F H t (.ref a) S):S a:=by
 cases t with
 |f d=>cases O
 |e l=>have⟨b,_,e,q,_⟩:=h;cases e;exact q
 |dct l=>have⟨b,_,e,q,_⟩:=h;cases e;exact q
 |dcT l=>have⟨b,_,e,q,_⟩:=h;cases e;exact q
 |fn b F0=>cases O
 |exc c l=>cases O
 |rse c l=>cases O
end
def KO(K:xA9)(F H:Hp)(t:T)(Q:VK):Prop:=∀v H' F' S,Step F H F' H'->Own K F' H' t v S->(∀b,S b->F' b=ψ/\H b=ψ/\∃o,H' b=ς o/\NT o)->Q v H'
def KL(K:xA9)(F H:Hp)(d:Dt)(Q:VK):Prop:=∀v H' F',Step F H F' H'->Rep K F' d v->Q v H'
section
variable{K:xA9}{F H F1 H1:Hp}{t:T}{d:Dt}{Q:VK}
theorem KO.step(k:KO K F H t Q)(st:Step F H F1 H1):KO K F1 H1 t Q:=λv H' F' S s o hs=>k v H' F' S (st.trans s) o λb z=>⟨(hs b z).1,st.hh.free (hs b z).2.1,(hs b z).2.2⟩
theorem KO.leaf(k:KO K F H (.f d) Q):KL K F H d Q:=λv H' F' st r=>k v H' F' (λ_=>False) st r λ_ z=>z.elim
theorem KL.here(k:KL K F H d Q)(fh:Same F H){v:V}(r:Rep K F d v):Q v H:=k v H F (Step.refl fh) r
theorem KL.to(O:t.d=ς d)(k:KL K F H d Q):KO K F H t Q:=λv H' F' S st o hs=>by
 refine k v H' (kh F' H' S) ⟨st.hh,st.ff.trans (ki λb z=>(hs b z).1),oB st.fh,λb u z=>?_⟩ (o.freeze (λb z=>(hs b z).1) O);by_cases hb:S b
 .exact .inr (.inl (hs b hb).2.1)
 .rw[eF hb]at z;exact st.nw b u z
end
variable{X:Cx}{e:J8}
theorem PE.mono{t t':TE}(h:PE X e t)(m:∀ σ H Q,t' σ H Q->t σ H Q):PE X e t':=λJ0 s σ H Q I q=>h J0 s σ H Q I (m _ _ _ q)
theorem PT.mono{t t':TT}(h:PT X e t)(m:∀ σ H Q,t' σ H Q->t σ H Q):PT X e t':=λJ0 s σ H Q I q=>h J0 s σ H Q I (m _ _ _ q)
theorem PW.mono{t t':TT}(h:PW X e t)(m:∀ σ H Q,t' σ H Q->t σ H Q):PW X e t':=λO J0 s σ H Q I q=>h O J0 s σ H Q I (m _ _ _ q)
theorem PABq.mono{e:η J8}{t t':TA}(h:PABq X e t)(m:∀ σ H Q,t' σ H Q->t σ H Q):PABq X e t':=λpos J0 s σ H Q I q=>h pos J0 s σ H Q I (m _ _ _ q)
variable{tg:J8}
theorem PI.mono{t t':TI}(h:PI X tg e t)(m:∀ σ H Q,t' σ H Q->t σ H Q):PI X tg e t':=λJ0 s σ H Q I q=>h J0 s σ H Q I (m _ _ _ q)
theorem PG.mono{t t':TG}(h:PG X e t)(m:∀v σ H Q,t' v σ H Q->t v σ H Q):PG X e t':=λJ0 s σ H v u Q I r q=>h J0 s σ H v u Q I r (m _ _ _ _ q)
theorem PS.mono{e:J6}{t t':TS}(h:PS X e t)(m:∀D σ H,t' D σ H->t D σ H):PS X e t':=λJ0 s σ H Q I q=>h J0 s σ H Q I (m _ _ _ q)
theorem PSs.mono{e:η J6}{t t':TS}(h:PSs X e t)(m:∀D σ H,t' D σ H->t D σ H):PSs X e t':=λJ0 s σ H Q I q=>h J0 s σ H Q I (m _ _ _ q)
theorem PI.or{t t':TI}(h:PI X tg e t)(h':PI X tg e t'):PI X tg e (λσ H Q=>t σ H Q\/t' σ H Q):=λJ0 s σ H Q I q=>q.elim (h J0 s σ H Q I) (h' J0 s σ H Q I)
variable{l ds:η Dt}{vs:η V}{H:Hp}
section
variable{X:Cx}{e a b c:J8}{f:De->ζ T}{g fa fb fc:De->ζ Dt}{pos:Pos}
noncomputable def kDBq(d:Dt):De->ζ Dt:=λ_=>ς d
def R2D(K:xA9)(r:R2)(g:Dt->Dt->ζ T):Prop:=∀F H x y vx vy (Q:VK) t,Same F H->RepB K F H x vx->RepB K F H y vy->g x y=ς t->KO K F H t Q->r vx vy H Q
noncomputable def qo:Dt->ζ Bool
 |.non=>ς ξ
 |.bl b=>ς b
 |.int i=>ς (i != 0)
 |.str x=>if x.length<=qa5 then ς ((x.length:Int) != 0)else ψ
 |.t l=>ς (!l.isEmpty)
 |.e l=>ς (!l.isEmpty)
 |_=>ψ
theorem eG{F:Hp}(h:Reps K F l vs):l.isEmpty=vs.isEmpty:=by
 cases l with
 |nil=>unfold Reps at h;rw[h];rfl
 |cons d l=>unfold Reps at h;have⟨v,ws,rfl,_⟩:=h;rfl
theorem wR{F:Hp}{d:Dt}{v:V}{b:Bool}(fh:Same F H)(h:RepB K F H d v)(hb:qo d=ς b):Av K v H b:=by
 cases d with
 |non=>cases h;cases hb;rfl
 |bl x=>cases h;cases hb;rfl
 |int x=>cases h;cases hb;rfl
 |str x=>
  cases h;rwa[qo]at hb;split at hb
  .cases hb;exact⟨by assumption,rfl⟩
  .cases hb
 |t l=>have⟨a,vs,rfl,h1,h2⟩:=h;cases hb;exact .inr (.inl ⟨vs,fh.tup h1,by rw[eG h2]⟩)
 |e l=>have⟨a,vs,rfl,h1,h2⟩:=h;cases hb;exact .inl ⟨vs,h1,by rw[eG h2]⟩
 |dct ks l=>cases hb
 |dcT ks l=>cases hb
variable{ta tb tc:De->ζ Bool}{rest:η J8}
theorem ia{F:Hp}{b:Bool}:Rep K F (.bl b) (.bl b):=by rwa[Rep]
theorem ba{F:Hp}{b:Int}:Rep K F (.int b) (.int b):=by rwa[Rep]
theorem eI{F:Hp}{b:Str}:Rep K F (.str b) (.str b):=by rwa[Rep]
theorem oC{F:Hp}:Rep K F .non .non:=by rwa[Rep]
variable{oa ob:De->ζ T}
def lF(K:xA9)(F H:Hp):η Dt->η V->Prop
 |[],vs=>vs=[]
 |d::l,vs=>∃v ws,vs=v::ws/\RepB K F H d v/\lF K F H l ws
variable{es:η J8}{fs:De->ζ (η Dt)}
theorem bT{F:Hp}{p:J4}{Q:VK}(k:KO K F H (.e ds) Q)(fh:Same F H)(r:Reps K F ds vs)(hp:H p=ψ):Q (.ref p) (upd H p (.e vs)):=by
 refine k _ _ F (λb=>b=p) (Step.made fh hp) ⟨p,vs,rfl,rfl,af,r⟩ λb z=>?_
 subst z;exact⟨fh.free hp,hp,_,af,nofun⟩
def CRD(K:xA9)(r:η V->Hp->VK->Prop)(g:η Dt->ζ T):Prop:=∀F H ds vs (Q:VK) t,Same F H->lF K F H ds vs->g ds=ς t->KO K F H t Q->r vs H Q
variable{x:Str}{p:Pos}{id Ty:String}{sc:J9}{r:η V->Hp->VK->Prop}{gg:η Dt->ζ T}
end
variable{J:It}{xs:η V}
section
variable{X:Cx}{st:J6}{rest a b body:η J6}{g g1 g2:De->ζ Out}{e c tg iter:J8}{pos:Pos}{f:De->ζ T}{fd:De->ζ Dt}{tc:De->ζ Bool}{i:Nat}
def tf(K:xA9)(F':Hp)(J:It)(ds:η Dt)(ok:Hp->Prop):Prop:=∀(i:Nat)(H F:Hp),ok H->Same F H->Same F' F->(i<ds.length->J.go i H)/\(i=ds.length->J.stop i H)/\∀x H',i<ds.length->J.yld i H x H'->∃d F2,ds[i]?=ς d/\Step F H F2 H'/\Rep K F2 d x
theorem Plain.walk{ok:Hp->Prop}(pl:Plain J xs ok)(r:Reps K F' ds xs):tf K F' J ds ok:=λi H F O fh Z=>by
 have⟨Y,p2,W⟩:=pl i H O;have hl:=r.length;refine⟨λh=>Y Θ,λh=>p2 Θ,λx H' hi hy=>?_⟩;have⟨rfl,hx⟩:=W x H' Θ hy;have U:ds[i]?=ς ds[i]:=by simp[hi]
 have⟨v,e,rv⟩:=r.get U;rw[hx]at e;cases e;exact⟨_,F,U,Step.refl fh,rv.same Z⟩
end
variable{σ:St}{H1:Hp}
section
variable{X:Cx}{st:J6}{rest a b body:η J6}{g g1 g2:De->ζ Out}{e c tg iter l:J8}{pos:Pos}{f:De->ζ T}{fd:De->ζ Dt}{tc:De->ζ Bool}{i:Nat}{fi:De->ζ (η Dt)}
theorem Reps.same_get{F:Hp}(r:Reps K F ds xs){i:Nat}{x:V}(h:xs[i]?=ς x):∃d,ds[i]?=ς d/\Rep K F d x:=by
 have hl:=r.length;have hi:i<xs.length:=(gX h).1;have O:ds[i]?=ς ds[i]:=by simp[show i<ds.length by lia]
 have⟨v,e,U⟩:=r.get O;rw[h]at e;cases e;exact⟨_,O,U⟩
theorem oE{α:Type}{l:η α}{i:Nat}{d:α}(h:l[i]?=ς d):l.drop i=d::l.drop (i+1):=by have hi:i<l.length:=(gX h).1;rw[qx2 hi];congr 1;have:=(gX h).2;exact this
theorem tj{n:Nat}{g:TG}{tb:TS}{D:Ends}(O:Nat->St->Hp->Prop)(Z:O 0 σ H1)(W:∀i σ H,O i σ H->(i<n->J.go i H)/\(i=n->J.stop i H))
 (hs:∀i x σ H H',i<n->O i σ H->J.yld i H x H'->g x σ H' λY H2=>tb {D with nx:=O (i+1),ct:=O (i+1),bk:=D.nx} Y H2) (hd:∀ σ H,O n σ H->D.nx σ H):ForW g tb D J σ H1:=by
 refine⟨λi m σ H=>m=n-i/\i<=n/\O i σ H,⟨n,Ξ,qg4 _,Z⟩,?_⟩;rintro i m σ H ⟨rfl,hi,p⟩;have⟨p1,p2⟩:=W i σ H p;by_cases U:i<n
 .exact .inr ⟨p1 U,O (i+1),λσ' H' p'=>⟨n-(i+1),Θ,rfl,U,p'⟩,λx H' y=>hs i x σ H H' U p y⟩
 .have e:i=n:=by lia
  subst e;exact .inl ⟨p2 rfl,hd σ H p⟩
noncomputable def aG(lo:Int)(n:Nat):η Dt:=(qd9 n).map λ(i:Nat)=>.int (lo+i)
theorem Reps.map{F:Hp}{α:Type}{f:α->Dt}{g:α->V}(h:∀x,Rep K F (f x) (g x)):∀l:η α,Reps K F (l.map f) (l.map g)
 |[]=>by simp[Reps]
 |x::l=>by rwa[qa3,Reps];exact⟨_,_,rfl,h x,Reps.map h l⟩
noncomputable def itD:Dt->ζ (η Dt)
 |.e l=>ς l
 |.t l=>ς l
 |_=>ψ
variable{p:Pos}{sc:J9}{x y:J8}{fs:De->ζ (η Dt)}
end
variable{D:J4}
section
variable{X:Cx}{elt tg iter:J8}{ifs:η J8}{scope:J9}{pos:Pos}{M:η Str}{src:η (ζ Nat)}{fi:De->ζ (η Dt)}{ft:De->ζ Bool}{fe:De->ζ Dt}
theorem wS{k j:Nat}{v:V}(h1:src[k]?=ς (ς j))(h2:σ[j]?=ς (ς v)):(aH src σ)[k]?=ς (ς v):=by unfold aH;rw[qa9,h1];simp[h2]
theorem AT{k:Nat}{v:V}(h:(aH src σ)[k]?=ς (ς v)):∃j,src[k]?=ς (ς j)/\σ[j]?=ς (ς v):=by
 unfold aH at h;rw[qa9]at h;cases e:src[k]? with
 |none=>rw[e]at h;cases h
 |some o=>
  rw[e]at h;cases o with
  |none=>cases h
  |some j=>
   rwa[qb2,qa0,qx9]at h;refine⟨j,rfl,?_⟩;cases q:σ[j]? with
   |none=>rw[q]at h;cases h
   |some u=>rw[q]at h;rwa[qp6]at h;rw[h]
theorem qp{n:Nat}{g:TG}{tt:TT}{te:TE}{Q:VK}(O:Nat->Hp->Prop)(h0:O 0 (upd H1 D (.e [])))(Y:∀i H,O i H->(i<n->J.go i H)/\(i=n->J.stop i H))
 (hs:∀i x H H',i<n->O i H->J.yld i H x H'->g x (aH src σ) H' λW H2=>Wk (aH src σ) W/\tt W H2 λb H3=>if b=θ then te W H3 λv Z=>∃ys,Z D=ς (.e ys)/\ys.length<qa5/\O (i+1) (upd Z D (.e (ys++[v])))else O (i+1) H3)
 (hd:∀H,O n H->Q (.ref D) H):yV src g tt te σ J H1 Q D:=by
 refine⟨λi m H=>m=n-i/\i<=n/\O i H,⟨n,Ξ,qg4 _,h0⟩,?_⟩;rintro i m H ⟨rfl,hi,p⟩;have⟨p1,p2⟩:=Y i H p;by_cases U:i<n
 .exact .inr ⟨p1 U,O (i+1),λH' p'=>⟨n-(i+1),Θ,rfl,U,p'⟩,λx H' y=>hs i x H H' U p y⟩
 .have e:i=n:=by lia
  subst e;exact .inl ⟨p2 rfl,hd H p⟩
end
section
variable{K:xA9}{F H:Hp}{Q:VK}
theorem KO.int{i:Int}(k:KO K F H (.f (.int i)) Q)(fh:Same F H):Q (.int i) H:=k.leaf.here fh ba
theorem KO.bl{i:Bool}(k:KO K F H (.f (.bl i)) Q)(fh:Same F H):Q (.bl i) H:=k.leaf.here fh ia
theorem KO.str{i:Str}(k:KO K F H (.f (.str i)) Q)(fh:Same F H):Q (.str i) H:=k.leaf.here fh eI
theorem KO.tup{p:J4}(k:KO K F H (.f (.t l)) Q)(fh:Same F H)(r:Reps K F l vs)(hp:H p=ψ):Q (.ref p) (upd H p (.t vs)):=by refine k.leaf _ _ _ (Step.new fh hp) ?_;rwa[Rep];exact⟨p,vs,rfl,SqT.of af,r.same (Same.upd (fh.free hp))⟩
end
noncomputable def cK(i j:Int):Bool:=(decide (-(2^64)<i)&&decide (i<2^64))||(decide (-(2^64)<j)&&decide (j<2^64))
variable{j:Int}
theorem wT{i:Int}(h:cK i j=θ):CMul i j:=by unfold cK at h;rwa[qf0,qa1,decide_eq_true_eq]at h;exact h
theorem eJ{i:Int}(h1:-1000000000000000000<i)(h2:i<1000000000000000000):cK i j=θ:=by unfold cK;rwa[qf0,qa1,decide_eq_true_eq];left;lia
theorem oF{i:Int}(h1:-1000000000000000000<j)(h2:j<1000000000000000000):cK i j=θ:=by unfold cK;rwa[qf0,qa1,decide_eq_true_eq];right;lia
noncomputable def lG(i j:Int):Bool:=decide (0<=j)&&decide (j<=1000000)&&decide (i.natAbs<2^64)
theorem wU{i:Int}(h:lG i j=θ):Ah i j:=by unfold lG at h;rwa[qa1,decide_eq_true_eq]at h;exact⟨h.1.1,h.1.2,h.2⟩
noncomputable def eM:Dt->Dt->ζ T
 |.int i,.int j=>ς (.f (.int (i+j)))
 |.str a,.str b=>if a.length+b.length<=qa5 then ς (.f (.str (a++b)))else ψ
 |.e l,.e m=>if l.length+m.length<=qa5 then ς (.e (l++m))else ψ
 |.t l,.t m=>if l.length+m.length<=qa5/\l≠[]/\m≠[]then ς (.f (.t (l++m)))else ψ
 |_,_=>ψ
noncomputable def tm:Dt->Dt->ζ T
 |.int i,.int j=>ς (.f (.int (i-j)))
 |_,_=>ψ
def iY:Dt->Dt->ζ T
 |.int i,.int j=>if cK i j then ς (.f (.int (i*j)))else ψ
 |_,_=>ψ
noncomputable def eN:Dt->Dt->ζ T
 |.int i,.int j=>if 0<j then ς (.f (.int (i%j)))else ψ
 |_,_=>ψ
def tp:Dt->Dt->ζ T
 |.int i,.int j=>if lG i j then ς (.f (.int (i^j.toNat)))else ψ
 |_,_=>ψ
noncomputable def qr(f:Int->Int->Int):Dt->Dt->ζ T
 |.int i,.int j=>ς (.f (.int (f i j)))
 |_,_=>ψ
noncomputable def wV(f:Int->Int->Bool):Dt->Dt->ζ T
 |.int i,.int j=>ς (.f (.bl (f i j)))
 |_,_=>ψ
variable{vx:V}
section
variable{X:Cx}
theorem wW:OpR X (qh7 .Add) (λx y H Q=>∃l b xs zs,x=.ref l/\y=.ref b/\SqL X.K H l xs/\SqL X.K H b zs/\xs.length+zs.length<=qa5/\∀p,H p=ψ->Q (.ref p) (upd H p (.e (xs++zs)))):=by
 intro J0 s σ H x y v u Q I rx ry h;have⟨l,b,xs,zs,rfl,rfl,hH,hB,hz,q⟩:=h;cases rx;cases ry;have⟨J3,r,pl,_⟩:=I.list hH;have⟨O,r2,Z,_⟩:=I.list hB;have⟨⟨cls,dd,data,sl⟩,n,ho,hc,hd0,hd⟩:=pl;have⟨⟨cls2,dd2,data2,sl2⟩,n2,W,U,hd02,Y⟩:=Z;simp only at hc hd U Y;subst hc hd U Y;have e:J3.toArray++O.toArray=(J3++O).toArray:=by simp
 refine qw2 ⟨_,ho,rfl⟩ ⟨_,W,rfl⟩ noFill_list_add seq_list_add PySem.F.slot_list_add PySem.F.entry_list_add (PySem.F.args_list_add_2 _ _) (list_addW l b J3.toArray O.toArray n n2 dd dd2 sl sl2 (by rw[qb5,qb5,<- r.length,<- r2.length];exact hz)) ⟨ho,W,?_⟩;rw[e];exact⟨.ref _,_,I.lnew (t':=s.toks) (r.append r2) (by rw[qc4];exact hz),rfl,q _ I.fresh⟩
abbrev jv(K:xA9):R2:=λx y H Q=>(rI0 (λi j=>.int (i+j)) x y H Q)\/(∃i j,x=.str i/\y=.str j/\i.length+j.length<=qa5/\Q (.str (i++j)) H)\/(∃l b xs zs,x=.ref l/\y=.ref b/\SqL K H l xs/\SqL K H b zs/\xs.length+zs.length<=qa5/\∀p,H p=ψ->Q (.ref p) (upd H p (.e (xs++zs))))\/yQ K x y H Q
theorem oG:OpR X (qh7 .Add) (jv X.K):=OpR.or Ai (OpR.or mN (OpR.or wW wE))
omit x in
theorem yZ:R2D K (jv K) eM:=by
 intro F H x y vx Z Q t fh W U O k;unfold eM at O;rcases O
 .cases O;cases W;cases U;exact .inl ⟨_,_,rfl,rfl,k.int fh⟩
 .split at O
  .cases O;cases W;cases U;exact .inr (.inl ⟨_,_,rfl,rfl,by assumption,k.str fh⟩)
  .cases O
 .split at O
  .rename_i hl;cases O;have⟨a,vs,rfl,h1,h2⟩:=W;have⟨b,ws,rfl,Y,h4⟩:=U;exact .inr (.inr (.inl ⟨a,b,vs,ws,rfl,rfl,h1,Y,by rw[h2.length,h4.length];exact hl,λp hp=>bT k fh (h2.append h4) hp⟩))
  .cases O
 .split at O
  .rename_i hl;cases O;have⟨a,vs,rfl,h1,h2⟩:=W;have⟨b,ws,rfl,Y,h4⟩:=U;have⟨hl,n1,n2⟩:=hl;refine .inr (.inr (.inr ⟨a,b,vs,ws,rfl,rfl,fh.tup h1,fh.tup Y,λz=>?_,by rw[h2.length,h4.length];exact hl,λz=>?_,λ_ p hp=>k.tup fh (h2.append h4) hp⟩))
   .subst z;have:=h2.length;exact n1 (qu0 this.symm)
   .subst z;have:=h4.length;exact absurd (qu0 this.symm) n2
  .cases O
theorem m5{f:Int->Int->Int}:R2D K (rI0 λi j=>.int (f i j)) (qr f):=by
 intro F H x y vx Y Q t fh W U O k;unfold qr at O;rcases O
 cases O;cases W;cases U;exact⟨_,_,rfl,rfl,k.int fh⟩
theorem Dz:R2D K (rI0 λi j=>.int (i-j)) tm:=by
 intro F H x y vx Y Q t fh U W O k;unfold tm at O;rcases O
 cases O;cases U;cases W;exact⟨_,_,rfl,rfl,k.int fh⟩
theorem DA:R2D K (gW CMul λi j=>.int (i*j)) iY:=by
 intro F H x y vx Y Q t fh U W O k;unfold iY at O;rcases O
 split at O
 .cases O;cases U;cases W;exact⟨_,_,rfl,rfl,wT (by assumption),k.int fh⟩
 .cases O
theorem DB:R2D K (gW (λ_ j=>0<j) λi j=>.int (i%j)) eN:=by
 intro F H x y vx Y Q t fh W U O k;unfold eN at O;rcases O
 split at O
 .cases O;cases W;cases U;exact⟨_,_,rfl,rfl,by assumption,k.int fh⟩
 .cases O
theorem DC:R2D K (gW Ah λi j=>.int (i^j.toNat)) tp:=by
 intro F H x y vx Y Q t fh U W O k;unfold tp at O;rcases O
 split at O
 .cases O;cases U;cases W;exact⟨_,_,rfl,rfl,wU (by assumption),k.int fh⟩
 .cases O
theorem y8{f:Int->Int->Bool}:R2D K (rI0 λi j=>.bl (f i j)) (wV f):=by
 intro F H x y vx Y Q t fh W U O k;unfold wV at O;rcases O
 cases O;cases W;cases U;exact⟨_,_,rfl,rfl,k.bl fh⟩
def eqD:Dt->Dt->ζ Bool
 |.non,.non=>ς θ
 |.non,.int _=>ς ξ
 |.non,.bl _=>ς ξ
 |.non,.str _=>ς ξ
 |.int _,.non=>ς ξ
 |.bl _,.non=>ς ξ
 |.str _,.non=>ς ξ
 |.int i,.int j=>ς (decide (i=j))
 |.bl i,.bl j=>ς (decide (i=j))
 |.str i,.str j=>ς (decide (i=j))
 |.int _,.str _=>ς ξ
 |.str _,.int _=>ς ξ
 |.bl _,.str _=>ς ξ
 |.str _,.bl _=>ς ξ
 |.t l,.t m=>if cmpbs l m&&decide (deeps l<=59)then ς (peqs l m)else ψ
 |.e l,.e m=>if cmpbs l m&&decide (deeps l<=59)then ς (peqs l m)else ψ
 |_,_=>ψ
section
variable{i j:Int}{x y:Str}{a b:Bool}
theorem eqdi:eqD (.int i) (.int j)=ς (decide (i=j)):=rfl
theorem eqds:eqD (.str x) (.str y)=ς (decide (x=y)):=rfl
theorem eqdb:eqD (.bl a) (.bl b)=ς (decide (a=b)):=rfl
theorem eqdn:eqD .non .non=ς θ:=rfl
theorem eqdx:eqD (.int i) (.str x)=ς ξ:=rfl
theorem eqdy:eqD (.str x) (.int i)=ς ξ:=rfl
theorem eqdz:eqD (.int i) .non=ς ξ:=rfl
theorem eqdw:eqD (.str x) .non=ς ξ:=rfl
theorem eqdt{m:η Dt}:eqD (.t l) (.t m)=if cmpbs l m&&decide (deeps l<=59)then ς (peqs l m)else ψ:=rfl
theorem eqdl{m:η Dt}:eqD (.e l) (.e m)=if cmpbs l m&&decide (deeps l<=59)then ς (peqs l m)else ψ:=rfl
end
def gEq(O:Bool)(x y:Dt):ζ T:=(eqD x y).map λb=>.f (.bl (if O then !b else b))
abbrev rEqA(K:xA9):R2:=λx y H Q=>rEq x y H Q\/wQ K ξ x y H Q
abbrev rNeA(K:xA9):R2:=λx y H Q=>rNe x y H Q\/wQ K θ x y H Q
theorem AU{k:Nat}(O:Room k X.A):OpR X (qe7 .Eq) (rEqA X.K):=OpR.or Dl (AR O rfl)
theorem AV{k:Nat}(O:Room k X.A):OpR X (qe7 .NotEq) (rNeA X.K):=OpR.or Dm (AS O rfl)
omit x in
theorem tq {F:Hp} {x y:Dt} {O:V} {b:Bool} (fh:Same F H) (U:RepB K F H x vx) (W:RepB K F H y O) (h:eqD x y=ς b) :
  (As vx O=θ/\b=decide (vx=O))\/(((∃l m,x=.t l/\y=.t m)\/∃l m,x=.e l/\y=.e m)/\bJ x y=θ/\cV x<=60/\b=peq x y):=by
 cases x<;>cases y<;>first
  |(cases h;done)
  |(cases h;cases U;cases W;left;refine⟨rfl,?_⟩;simp;done)
  |skip
 .right
  replace h:(if _ then _ else _)=ς b:=h
  split at h
  .rename_i q;rwa[qa1,decide_eq_true_eq]at q;cases h;exact⟨.inl ⟨_,_,rfl,rfl⟩,by rwa[bJ];exact q.1,by rwa[cV];lia,rfl⟩
  .cases h
 .right
  replace h:(if _ then _ else _)=ς b:=h
  split at h
  .rename_i q;rwa[qa1,decide_eq_true_eq]at q;cases h;exact⟨.inr ⟨_,_,rfl,rfl⟩,by rwa[bJ];exact q.1,by rwa[cV];lia,rfl⟩
  .cases h
theorem r_eq:R2D K (rEqA K) (gEq ξ):=by
 intro F H x y vx vy Q t fh Y W O k;unfold gEq at O;have⟨b,hb,O⟩:=qe0.mp O;cases O;have U:Q (.bl b) H:=k.bl fh;rcases tq fh Y W hb with ⟨h1,rfl⟩|⟨h1,h2,Z,rfl⟩
 .exact .inl ⟨h1,U⟩
 .exact .inr ⟨x,y,h1,Y.rep fh,W.rep fh,h2,Z,U⟩
theorem r_ne:R2D K (rNeA K) (gEq θ):=by
 intro F H x y vx vy Q t fh Y W O k;unfold gEq at O;have⟨b,hb,O⟩:=qe0.mp O;cases O;have U:Q (.bl (!b)) H:=k.bl fh;rcases tq fh Y W hb with ⟨h1,rfl⟩|⟨h1,h2,Z,rfl⟩
 .exact .inl ⟨h1,U⟩
 .exact .inr ⟨x,y,h1,Y.rep fh,W.rep fh,h2,Z,U⟩
noncomputable def tz:Dt->Bool
 |.non=>θ
 |_=>ξ
def gIs(O:Bool)(x y:Dt):ζ T:=match y with
 |.non=>ς (.f (.bl (if O then !tz x else tz x)))
 |_=>ψ
theorem lH{F:Hp}{x:Dt}{v:V}(r:RepB K F H x v):tz x=decide (v=.non):=by
 cases x<;>first
  |(cases r;rfl)
  |(have⟨a,vs,rfl,_⟩:=r;rfl)
  |(rwa[RepB,Rep]at r;have⟨a,C,dx,fs,rfl,_⟩:=r;rfl)
theorem r_is:R2D K (λx y H Q=>y=.non/\Q (.bl (decide (x=.non))) H) (gIs ξ):=by
 intro F H x y vx Y Q t fh W U O k;cases y<;>first|cases O;done|skip
 cases O;cases U;refine⟨rfl,?_⟩;rw[<- lH W];exact k.bl fh
theorem wX:R2D K (λx y H Q=>y=.non/\Q (.bl (!decide (x=.non))) H) (gIs θ):=by
 intro F H x y vx Y Q t fh W U O k;cases y<;>first|cases O;done|skip
 cases O;cases U;refine⟨rfl,?_⟩;rw[<- lH W];exact k.bl fh
noncomputable def cL:Dt->Bool
 |.non=>θ
 |.bl _=>θ
 |.int _=>θ
 |.str _=>θ
 |_=>ξ
noncomputable def eqF:Dt->Dt->Bool
 |.non,.non=>θ
 |.bl a,.bl b=>a==b
 |.bl a,.int b=>(if a then 1 else 0)==b
 |.int a,.bl b=>a==(if b then 1 else 0)
 |.int a,.int b=>a==b
 |.str a,.str b=>a==b
 |_,_=>ξ
noncomputable def inS(j i:Str):Bool:=!(qr8 j i 0 j.length 1).isEmpty
def inD:Dt->Dt->ζ Bool
 |.str i,.str j=>ς (inS j i)
 |x,.e l=>if cL x&&l.all cL then ς (l.any λy=>eqF y x)else ψ
 |x,.t l=>if cL x&&l.all cL then ς (l.any λy=>eqF y x)else ψ
 |_,_=>ψ
def gIn(O:Bool)(x y:Dt):ζ T:=(inD x y).map λb=>.f (.bl (if O then !b else b))
theorem kj{F:Hp}{d:Dt}{v:V}(r:Rep K F d v)(h:cL d=θ):dE v=θ:=by
 cases d<;>rwa[Rep]at r<;>first
  |(subst r;rfl)
  |cases h
theorem AW{F:Hp}{d e:Dt}{v w:V}(r:Rep K F d v)(O:Rep K F' e w)(h:cL d=θ)(h':cL e=θ):eqF d e=eqV v w:=by
 cases d<;>first|cases h;done|skip
 all_goals cases e<;>first|cases h';done|skip
 all_goals rwa[Rep]at r O;subst r O;rfl
theorem ib{F:Hp}:∀{l:η Dt}{vs:η V},Reps K F l vs->l.all cL=θ->vs.all dE=θ
 |[],vs,r,_=>by rwa[Reps]at r;subst r;rfl
 |d::l,vs,r,h=>by rwa[Reps]at r;have⟨v,ws,rfl,h1,h2⟩:=r;rw[qd4,qa1]at h ⊢;exact⟨kj h1 h.1,ib h2 h.2⟩
theorem m6{F:Hp}{x:Dt}{w:V}(O:Rep K F' x w)(U:cL x=θ):∀{l:η Dt}{vs:η V},Reps K F l vs->l.all cL=θ->(l.any λy=>eqF y x)=inV w vs
 |[],vs,r,_=>by rwa[Reps]at r;subst r;rfl
 |d::l,vs,r,h=>by rwa[Reps]at r;have⟨v,ws,rfl,h1,h2⟩:=r;rw[qd4,qa1]at h;unfold inV;rw[ql2,ql2,AW h1 O h.1 U,m6 O U h2 h.2];rfl
abbrev AX(K:xA9)(neg:Bool):R2:=λx y H Q=>(∃i j,x=.str i/\y=.str j/\Q (.bl (if neg then !inS j i else inS j i)) H)\/rIn K neg x y H Q
theorem AY:OpR X (qe7 .In) (AX X.K ξ):=OpR.or p6 qd
theorem qt:OpR X (qe7 .NotIn) (AX X.K θ):=OpR.or j4 j3
omit x in
theorem r_in(U:Bool):R2D K (AX K U) (gIn U):=by
 intro F H x y vx vy Q t fh rx Z Y k;unfold gIn at Y;have⟨b,hb,Y⟩:=qe0.mp Y;cases Y;have W:=k.bl fh;unfold inD at hb;rcases hb
 .cases hb;cases rx;cases Z;exact .inl ⟨_,_,rfl,rfl,W⟩
 .split at hb
  .rename_i q;rw[qa1]at q;cases hb;have⟨a,vs,rfl,h1,h2⟩:=Z;have O:=rx.rep fh;rw[m6 O q.1 h2 q.2]at W;exact .inr ⟨a,vs,rfl,.inl h1,kj O q.1,ib h2 q.2,W⟩
  .cases hb
 .split at hb
  .rename_i q;rw[qa1]at q;cases hb;have⟨a,vs,rfl,h1,h2⟩:=Z;have O:=rx.rep fh;rw[m6 O q.1 h2 q.2]at W;exact .inr ⟨a,vs,rfl,.inr (fh.tup h1),kj O q.1,ib h2 q.2,W⟩
  .cases hb
theorem lI{F:Hp}{i:Int}{d:Dt}(r:Reps K F l vs)(h:atI l i=ς d):∃v,atI vs i=ς v/\Rep K F d v:=by unfold atI at h ⊢;rw[r.length];have⟨j,O,h⟩:=qn2.mp h;have⟨v,e,U⟩:=r.get h;exact⟨v,by rw[O];exact e,U⟩
def gIx:Dt->Dt->ζ T
 |.e l,.int i=>(atI l i).map .f
 |.t l,.int i=>(atI l i).map .f
 |.str x,.int i=>if x.length<=qa5 then(atI x.cps.toList i).map λc=>.f (.str ⟨#[c]⟩)else ψ
 |_,_=>ψ
omit x in
theorem r_ix:R2D K (rIx K) gIx:=by
 intro F H x y vx vy Q t fh Y W O k;unfold gIx at O;rcases O
 .have⟨d,U,O⟩:=qe0.mp O;cases O;cases W;have⟨a,vs,rfl,h1,h2⟩:=Y;have⟨v,e,Z⟩:=lI h2 U;exact .inl ⟨a,vs,_,v,rfl,rfl,h1,e,k.leaf.here fh Z⟩
 .have⟨d,U,O⟩:=qe0.mp O;cases O;cases W;have⟨a,vs,rfl,h1,h2⟩:=Y;have⟨v,e,Z⟩:=lI h2 U;exact .inr (.inl ⟨a,vs,_,v,rfl,rfl,fh.tup h1,e,k.leaf.here fh Z⟩)
 .split at O
  .rename_i hl;have⟨c,hc,O⟩:=qe0.mp O;cases O;cases Y;cases W;exact .inr (.inr ⟨_,_,c,rfl,rfl,hl,hc,k.str fh⟩)
  .cases O
variable{a b c:J8}{fa fb fc:De->ζ Dt}{pos:Pos}
noncomputable def ic(l:η Dt)(lo hi:ζ Int):η Dt:=(l.drop (HT.sIx l.length 0 lo)).take (HT.sIx l.length l.length hi-HT.sIx l.length 0 lo)
def gSl:Dt->ζ Int->ζ Int->ζ T
 |.str x,lo,hi=>if x.length<=qa5 then ς (.f (.str (Txt.slice x lo hi)))else ψ
 |.e l,lo,hi=>ς (.e (ic l lo hi))
 |.t l,lo,hi=>if HT.sIx l.length 0 lo=0/\HT.sIx l.length l.length hi=l.length then ψ else ς (.f (.t (ic l lo hi)))
 |_,_,_=>ψ
abbrev rSlA(K:xA9):V->ζ Int->ζ Int->Hp->VK->Prop:=λx lo hi H Q=>rSlS x lo hi H Q\/rSlL K x lo hi H Q\/rSlT K x lo hi H Q
theorem AZ:SlR X (rSlA X.K):=SlR.or AN (SlR.or wG AC)
theorem lJ{F:Hp}(r:Reps K F l vs)(lo hi:ζ Int):Reps K F (ic l lo hi) (lw vs lo hi):=by unfold ic lw;rw[r.length];exact(r.drop _).take _
omit x in
theorem r_sl{F:Hp}{x:Dt}{v:V}{lo hi:ζ Int}{Q:VK}{t:T}(fh:Same F H)(U:RepB K F H x v)(O:gSl x lo hi=ς t)(k:KO K F H t Q):rSlA K v lo hi H Q:=by
 unfold gSl at O;rcases O
 .split at O
  .cases O;cases U;exact .inl ⟨_,rfl,by assumption,k.str fh⟩
  .cases O
 .have⟨a,vs,rfl,h1,h2⟩:=U;cases O;exact .inr (.inl ⟨a,vs,rfl,h1,λp hp=>bT k fh (lJ h2 _ _) hp⟩)
 .have⟨a,vs,rfl,h1,h2⟩:=U;split at O
  .cases O
  .rename_i W;cases O;rw[<- h2.length]at W;exact .inr (.inr ⟨a,vs,rfl,fh.tup h1,W,λp hp=>k.tup fh (lJ h2 _ _) hp⟩)
noncomputable def asI:Dt->ζ Int
 |.int i=>ς i
 |_=>ψ
noncomputable def fL:η Dt->ζ T
 |[.str x]=>if x.length<=qa5 then ς (.f (.int x.length))else ψ
 |[.t l]=>ς (.f (.int l.length))
 |[.e l]=>ς (.f (.int l.length))
 |_=>ψ
theorem cq{F:Hp}{d:Dt}(r:lF K F H [d] vs):∃v,vs=[v]/\RepB K F H d v:=by have⟨v,ws,rfl,h1,h2⟩:=r;cases h2;exact⟨v,rfl,h1⟩
omit x in
theorem DD:CRD K (λxs H Q=>∃x n,xs=[x]/\LenV K x H n/\Q (.int n) H) fL:=by
 intro F H ds vs Q t fh r O k;unfold fL at O;rcases O
 .split at O
  .rename_i hl;cases O;have⟨v,rfl,U⟩:=cq r;cases U;exact⟨_,_,rfl,⟨hl,rfl⟩,k.int fh⟩
  .cases O
 .cases O;have⟨v,rfl,U⟩:=cq r;have⟨a,vs,rfl,h1,h2⟩:=U;rw[<- h2.length]at k;exact⟨_,_,rfl,.inr ⟨vs,fh.tup h1,rfl⟩,k.int fh⟩
 .cases O;have⟨v,rfl,U⟩:=cq r;have⟨a,vs,rfl,h1,h2⟩:=U;rw[<- h2.length]at k;exact⟨_,_,rfl,.inl ⟨vs,h1,rfl⟩,k.int fh⟩
noncomputable def m9:η Dt->ζ T
 |[.e l]=>ς (.f (.t l))
 |[.t l]=>ς (.f (.t l))
 |_=>ψ
omit x in
theorem wY:CRD K (λxs H Q=>∃p ys,xs=[.ref p]/\((SqL K H p ys/\∀l,H l=ψ->Q (.ref l) (upd H l (.t ys)))\/(SqT K H p ys/\Q (.ref p) H))) m9:=by
 intro F H ds vs Q t fh r O k;unfold m9 at O;rcases O
 .cases O;have⟨v,rfl,U⟩:=cq r;have⟨a,vs,rfl,h1,h2⟩:=U;exact⟨a,vs,rfl,.inl ⟨h1,λp hp=>k.tup fh h2 hp⟩⟩
 .cases O;have⟨v,rfl,U⟩:=cq r;rename_i l;have W:Rep K F (.t l) v:=by rwa[Rep];exact U
  have⟨a,vs,rfl,h1,h2⟩:=U;exact⟨a,vs,rfl,.inr ⟨fh.tup h1,k.leaf.here fh W⟩⟩
noncomputable def tB:η Dt->ζ T
 |[.e l]=>ς (.e l)
 |[.t l]=>ς (.e l)
 |_=>ψ
theorem A0:CRD K (λxs H Q=>∃p ys,xs=[.ref p]/\(SqL K H p ys\/SqT K H p ys)/\∀l,H l=ψ->Q (.ref l) (upd H l (.e ys))) tB:=by
 intro F H ds vs Q t fh r O k;unfold tB at O;rcases O
 .cases O;have⟨v,rfl,U⟩:=cq r;have⟨a,vs,rfl,h1,h2⟩:=U;exact⟨a,vs,rfl,.inl h1,λp hp=>bT k fh h2 hp⟩
 .cases O;have⟨v,rfl,U⟩:=cq r;have⟨a,vs,rfl,h1,h2⟩:=U;exact⟨a,vs,rfl,.inr (fh.tup h1),λp hp=>bT k fh h2 hp⟩
end
set_option genInjectivity true in
inductive CV where
 |g (d:Dt)|ref (i:Nat)|fn (a:J4) (F0:Hp)
 |own (b:Bool) (t:T)
set_option genInjectivity true in
inductive CO where
 |e (l:List CV)|t (l:List CV)|dK (l:List (Key×CV))|dT (l:List (List Key×CV))|ins (c:Nat) (l:List CV)
abbrev CH:=η CO
abbrev Sl:=η (ζ CV)
structure Gx where
 K:xA9
 ct:List (Str×List Str)
def ClsAt(K:xA9)(c:Str)(C:J4):Prop:=xE9 K qe6 c=ς (ς (.ref C))
section
variable(G:Gx)(F H:Hp)(ρ:Nat->J4)(n:Nat)
def RelS:CV->V->Prop
 |.g d,v=>Rep G.K F d v
 |.ref i,v=>i<n/\v=.ref (ρ i)
 |.fn a F0,v=>v=.ref a/\Same F0 F
 |.own _ _,_=>False
abbrev RelSs:η CV->η V->Prop:=Paired (RelS G F ρ n)
def RelW(t:T)(v:V):Prop:=∃a,v=.ref a/\t.own=θ/\Own G.K F H t v (· = a)/\F a=ψ/\∀i,i<n->ρ i≠a
def RelC:CV->V->Prop
 |.own _ t,v=>RelW G F H ρ n t v
 |c,v=>RelS G F ρ n c v
abbrev RelCs:η CV->η V->Prop:=Paired (RelC G F H ρ n)
def CoOk(a:J4):CO->Prop
 |.e l=>∃vs,H a=ς (.e vs)/\RelSs G F ρ n l vs
 |.t l=>∃vs,H a=ς (.t vs)/\RelSs G F ρ n l vs
 |.dK l=>(l.map (·.1)).Nodup/\∃J1,H a=ς (.dK J1)/\J1.map (·.1)=l.map (·.1)/\RelSs G F ρ n (l.map (·.2)) (J1.map (·.2))
 |.dT l=>(l.map (·.1)).Nodup/\∃J1,H a=ς (.dT J1)/\J1.map (·.1)=l.map (·.1)/\RelSs G F ρ n (l.map (·.2)) (J1.map (·.2))
 |.ins c l=>∃p C dx fs,G.ct[c]?=ς p/\ClsAt G.K p.1 C/\H a=ς (.ins C dx fs)/\fs.map (·.1)=p.2.take l.length/\RelSs G F ρ n l (fs.map (·.2))
end
section
variable{G:Gx}{F H F' H' F1 H1:Hp}{ρ ρ' ρ1:Nat->J4}{n n':Nat}{c:CV}{v:V}{l m:η CV}{vs ws:η V}
theorem Paired.get{α β:Type}{R:α->β->Prop}:∀{l:η α}{m:η β}{i:Nat}{a:α},Paired R l m->l[i]?=ς a->∃b,m[i]?=ς b/\R a b
 |_,_,_,_,.nil,e=>by simp at e
 |_,_,0,_,.cons r _,e=>by simp at e;subst e;exact⟨_,rfl,r⟩
 |_,_,i+1,a,.cons _ t,e=>by have⟨b,h1,h2⟩:=Paired.get (i:=i) (a:=a) t ‹e›;exact⟨b,‹h1›,h2⟩
theorem Paired.set{α β:Type}{R:α->β->Prop}{a:α}{b:β}(r:R a b):∀{l:η α}{m:η β}(i:Nat),Paired R l m->Paired R (l.set i a) (m.set i b)
 |_,_,_,.nil=>.nil
 |_,_,0,.cons _ t=>.cons r t
 |_,_,i+1,.cons q t=>.cons q (Paired.set r i t)
theorem Paired.app{α β:Type}{R:α->β->Prop}:∀{l l':η α}{m O:η β},Paired R l m->Paired R l' O->Paired R (l++l') (m++O)
 |_,_,_,_,.nil,s=>s
 |_,_,_,_,.cons r t,s=>.cons r (Paired.app t s)
theorem RelS.mono(O:Same F F')(U:∀i,i<n->ρ' i=ρ i)(W:n<=n')(h:RelS G F ρ n c v):RelS G F' ρ' n' c v:=by
 cases c with
 |g d=>exact Rep.same O h
 |ref i=>exact⟨qc7 h.1 W,by rw[U i h.1];exact h.2⟩
 |fn a F0=>exact⟨h.1,h.2.trans O⟩
 |own b t=>exact h.elim
theorem RelSs.mono(O:Same F F')(U:∀i,i<n->ρ' i=ρ i)(W:n<=n')(h:RelSs G F ρ n l vs):RelSs G F' ρ' n' l vs:=Paired.mapP h λ_ _ r=>r.mono O U W
theorem RelS.toC(h:RelS G F ρ n c v):RelC G F H ρ n c v:=by cases c<;>first|exact h|exact h.elim
noncomputable def CV.sol:CV->Bool
 |.own _ _=>ξ
 |_=>θ
theorem RelC.s(hs:c.sol=θ)(h:RelC G F H ρ n c v):RelS G F ρ n c v:=by cases c<;>first|exact h|cases hs
theorem RelCs.s:∀{l:η CV}{vs:η V},l.all CV.sol=θ->RelCs G F H ρ n l vs->RelSs G F ρ n l vs
 |_,_,_,.nil=>.nil
 |_,_,h,.cons r t=>by rwa[qd4,qa1]at h;exact .cons (r.s h.1) (RelCs.s h.2 t)
theorem RelSs.length(h:RelSs G F ρ n l vs):vs.length=l.length:=(Paired.length h).symm
theorem RelSs.dats:∀{l:η Dt}{vs:η V},Reps G.K F l vs->RelSs G F ρ n (l.map .g) vs
 |[],vs,h=>by rwa[Reps]at h;subst h;exact .nil
 |d::l,vs,h=>by rwa[Reps]at h;have⟨v,ws,rfl,h1,h2⟩:=h;exact .cons h1 (RelSs.dats h2)
noncomputable def dats:η CV->ζ (η Dt)
 |[]=>ς []
 |.g d::l=>(dats l).map (d::·)
 |_=>ψ
theorem bw:∀l:η Dt,dats (l.map .g)=ς l
 |[]=>rfl
 |d::l=>by simp[dats,bw l]
theorem cr:∀{l:η CV}{ds:η Dt},dats l=ς ds->l=ds.map .g
 |[],ds,h=>by cases h;rfl
 |.g d::l,ds,h=>by rwa[dats,qe0]at h;have⟨es,h1,rfl⟩:=h;rw[cr h1];rfl
 |.ref _::_,_,h=>by simp[dats]at h
 |.fn _ _::_,_,h=>by simp[dats]at h
 |.own _ _::_,_,h=>by simp[dats]at h
theorem oH:∀{ds:η Dt}{vs:η V},RelSs G F ρ n (ds.map .g) vs->Reps G.K F ds vs
 |[],_,.nil=>by rwa[Reps]
 |d::ds,_,.cons r t=>by rwa[Reps];exact⟨_,_,rfl,r,oH t⟩
theorem aX(h:dats l=ς ds)(r:RelSs G F ρ n l vs):Reps G.K F ds vs:=by rw[cr h]at r;exact oH r
theorem CoOk.mono{o:CO}(Z:Same F F')(U:∀i,i<n->ρ' i=ρ i)(Y:n<=n')(O:∀u,H a=ς u->H' a=ς u)(h:CoOk G F H ρ n a o):CoOk G F' H' ρ' n' a o:=by
 cases o with
 |e l=>have⟨vs,h1,h2⟩:=h;exact⟨vs,O _ h1,h2.mono Z U Y⟩
 |t l=>have⟨vs,h1,h2⟩:=h;exact⟨vs,O _ h1,h2.mono Z U Y⟩
 |dK l=>have⟨nd,vs,h1,h2,W⟩:=h;exact⟨nd,vs,O _ h1,h2,W.mono Z U Y⟩
 |dT l=>have⟨nd,vs,h1,h2,W⟩:=h;exact⟨nd,vs,O _ h1,h2,W.mono Z U Y⟩
 |ins c l=>have⟨p,C,dx,fs,hp,h0,h1,h2,W⟩:=h;exact⟨p,C,dx,fs,hp,h0,O _ h1,h2,W.mono Z U Y⟩
theorem CoOk.there{o:CO}(h:CoOk G F H ρ n a o):∃u,H a=ς u:=by
 cases o with
 |e l=>have⟨vs,h1,h2⟩:=h;exact⟨_,h1⟩
 |t l=>have⟨vs,h1,h2⟩:=h;exact⟨_,h1⟩
 |dK l=>have⟨O,vs,h1,h2⟩:=h;exact⟨_,h1⟩
 |dT l=>have⟨O,vs,h1,h2⟩:=h;exact⟨_,h1⟩
 |ins c l=>have⟨p,C,dx,fs,hp,U,h1,h2⟩:=h;exact⟨_,h1⟩
end
def CO.live:CO->Prop
 |.t _=>False
 |_=>True
structure Gh(G:Gx)(F H:Hp)(ρ:Nat->J4)(ch:CH):Prop where
 fh:Same F H
 inj:∀i j,i<ch.length->j<ch.length->ρ i=ρ j->i=j
 out:∀i o,ch[i]?=ς o->o.live->F (ρ i)=ψ
 ok:∀i o,ch[i]?=ς o->CoOk G F H ρ ch.length (ρ i) o
structure Adv(G:Gx)(F H:Hp)(ρ:Nat->J4)(ch:CH)(F' H':Hp)(ρ':Nat->J4)(ch':CH):Prop where
 gh:Gh G F' H' ρ' ch'
 len:ch.length<=ch'.length
 ext:∀i,i<ch.length->ρ' i=ρ i
 fr:∀i,ch.length<=i->i<ch'.length->H (ρ' i)=ψ
 prot:∀b o,H b=ς o->(∀i,i<ch.length->ρ i≠b)->H' b=ς o
 old:Same F F'
 nw:∀b o,F' b=ς o->F b=ς o\/H b=ψ\/∃vs,o=.t vs
 hs:∀b,H' b=ψ->H b=ψ
variable{u:HO}
section
variable{G:Gx}{F H F' H' F1 H1:Hp}{ρ ρ' ρ1:Nat->J4}{ch ch' ch1:CH}{c:CV}{v:V}
theorem Gh.at(g:Gh G F H ρ ch){i:Nat}(hi:i<ch.length):∃u,H (ρ i)=ς u:=(g.ok i ch[i] (by simp[hi])).there
theorem Adv.refl(g:Gh G F H ρ ch):Adv G F H ρ ch F H ρ ch:=⟨g,nL _,λ_ _=>rfl,λi h1 h2=>absurd h2 (qn6.mpr h1),λ_ _ h _=>h,Same.refl _,λ_ _ h=>.inl h,λ_ h=>h⟩
theorem Adv.trans(a:Adv G F H ρ ch F1 H1 ρ1 ch1)(b:Adv G F1 H1 ρ1 ch1 F' H' ρ' ch'):Adv G F H ρ ch F' H' ρ' ch' where
 gh:=b.gh
 len:=qd7 a.len b.len
 ext:=λi hi=>(b.ext i (qc7 hi a.len)).trans (a.ext i hi)
 fr:=λi h1 h2=>by
  by_cases hi:i<ch1.length
  .rw[b.ext i hi];exact a.fr i h1 hi
  .exact a.hs _ (b.fr i (qn6.mp hi) h2)
 prot:=λx o h1 h2=>b.prot x o (a.prot x o h1 h2) λi hi e=>by
  by_cases O:i<ch.length
  .rw[a.ext i O]at e;exact h2 i O e
  .have:=a.fr i (qn6.mp O) hi;rw[e,h1]at this;cases this
 old:=a.old.trans b.old
 nw:=λx o h=>(b.nw x o h).elim (a.nw x o) λz=>.inr (z.imp_left (a.hs x))
 hs:=λx h=>a.hs x (b.hs x h)
theorem jw(h:Same H H')(b:J4)(e:H' b=ψ):H b=ψ:=h.free e
theorem Gh.of(g:Gh G F H ρ ch)(st:Step F H F' H'):Gh G F' H' ρ ch:=by
 refine⟨st.fh,g.inj,λi o hi hl=>?_,λi o h=>(g.ok i o h).mono st.ff (λ_ _=>rfl) (nL _) λu U=>st.hh _ _ U⟩;cases q:F' (ρ i)with
 |none=>rfl
 |some u=>
  have O:=g.ok i o hi;rcases st.nw _ _ q with z|z|⟨vs,z⟩
  .rw[g.out i o hi hl]at z;cases z
  .have⟨u,U⟩:=O.there;rw[U]at z;cases z
  .cases o with
   |e l=>have⟨vs,h1,_⟩:=O;rw[h1]at z;cases z
   |t l=>exact hl.elim
   |dK l=>have⟨W,vs,h1,_⟩:=O;rw[h1]at z;cases z
   |dT l=>have⟨W,vs,h1,_⟩:=O;rw[h1]at z;cases z
   |ins c l=>have⟨p,C,dx,fs,hp,Y,h1,_⟩:=O;rw[h1]at z;cases z
theorem oI(st:Step F H F' H')(b:J4)(o:HO)(h:F' b=ς o):F b=ς o\/H b=ψ\/∃vs,o=.t vs:=(st.nw b o h).imp_right λz=>z.imp_right λO=>by have⟨vs,z⟩:=O;exact⟨vs,qd5 ((st.fh b o h).symm.trans (st.hh b _ z))⟩
theorem Adv.of(g:Gh G F H ρ ch)(st:Step F H F' H'):Adv G F H ρ ch F' H' ρ ch:=⟨g.of st,nL _,λ_ _=>rfl,λi h1 h2=>absurd h2 (qn6.mpr h1),λb o h _=>st.hh b o h,st.ff,oI st,jw st.hh⟩
theorem aj{α:Type}{l:η α}{i:Nat}{x:α}(h:l[i]?=ς x):i<l.length:=(gX h).1
theorem Adv.put(g:Gh G F H ρ ch){i:Nat}{o w:CO}(U:ch[i]?=ς w)(hl:w.live)(ho:CoOk G F (upd H (ρ i) u) ρ ch.length (ρ i) o):Adv G F H ρ ch F (upd H (ρ i) u) ρ (ch.set i o) where
 gh:=⟨λb x e=>by
     rw[ah λq=>by rw[q,g.out i w U hl]at e;cases e];exact g.fh b x e,λj k Z Y=>g.inj j k ‹Z› ‹Y›,λj x O W=>by
     by_cases q:i=j
     .subst q;exact g.out i w U hl
     .rw[gN q]at O;exact g.out j x O W,λj x O=>by
     rw[List.length_set];by_cases q:i=j
     .subst q;rw[qe3 (aj U)]at O;cases O;exact ho
     .rw[gN q]at O;refine(g.ok j x O).mono (Same.refl _) (λ_ _=>rfl) (nL _) λy hy=>?_
      rw[ah λe=>q (g.inj j i (aj O) (aj U) e).symm];exact hy⟩
 len:=by simp
 ext:=λ_ _=>rfl
 fr:=λj h1 h2=>absurd h2 ‹h1›
 prot:=λb x h1 h2=>by rw[ah λe=>h2 i (aj U) e.symm];exact h1
 old:=Same.refl _
 nw:=λ_ _ h=>.inl h
 hs:=λb h=>by
  by_cases e:b=ρ i
  .subst e;rw[af]at h;cases h
  .rw[ah e]at h;assumption
theorem Adv.new (g:Gh G F H ρ ch) (st:Step F H F' H') {o:CO} (Z:H a=ψ) (hf:F' a=ψ) (ho:CoOk G F' H' (λi=>if i=ch.length then a else ρ i) (ch.length+1) a o) :
  Adv G F H ρ ch F' H' (λi=>if i=ch.length then a else ρ i) (ch++[o]):=by
 have g':=(Adv.of g st).gh;have lt:∀{i:Nat},i<ch.length->(if i=ch.length then a else ρ i)=ρ i:=λ{i} hi=>if_neg (qc5 hi)
 have ne:∀{i:Nat},i<ch.length->ρ i≠a:=λ{i} hi e=>by have⟨u,W⟩:=g.at hi;rw[e,Z]at W;cases W
 have U:∀i x,(ch++[o])[i]?=ς x->(i<ch.length/\ch[i]?=ς x)\/(i=ch.length/\x=o):=λi x O=>by
  by_cases h1:i<ch.length
  .rw[gL h1]at O;exact .inl ⟨h1,O⟩
  .rw[gR (qn6.mp h1)]at O;have h2:i=ch.length:=by have:=aj O;simp at this;lia
   subst h2;simp at O;exact .inr ⟨rfl,O.symm⟩
 refine⟨⟨st.fh,λi j hi Y e=>?_,λi x O hl=>?_,λi x O=>?_⟩,Ξ,λi hi=>lt hi,λi h1 h2=>?_,λb x h1 _=>st.hh b x h1,st.ff,oI st,jw st.hh⟩
 .rwa[qc4,qc2,qf9]at hi Y;by_cases h1:i=ch.length<;>by_cases h2:j=ch.length
  .rw[h1,h2]
  .rw[if_pos h1,if_neg h2]at e;exact absurd e.symm (ne Θ)
  .rw[if_neg h1,if_pos h2]at e;exact absurd e (ne Θ)
  .rw[if_neg h1,if_neg h2]at e;exact g.inj i j Θ Θ e
 .rcases U i x O with ⟨h1,h2⟩|⟨h1,h2⟩
  .rw[lt h1];exact g'.out i x h2 hl
  .rw[if_pos h1];exact hf
 .rwa[qc4,qc2,qf9];rcases U i x O with ⟨h1,h2⟩|⟨h1,h2⟩
  .rw[lt h1];exact(g'.ok i x h2).mono (Same.refl _) (λj Y=>lt Y) (qn0 _) λu W=>W
  .subst h1;subst h2;rw[if_pos rfl];exact ho
 .rwa[qc4,qc2,qf9]at h2;have h3:i=ch.length:=by lia
  rw[if_pos h3];exact Z
theorem RelW.adv{t:T}(a:Adv G F H ρ ch F' H' ρ' ch')(h:RelW G F H ρ ch.length t v):RelW G F' H' ρ' ch'.length t v:=by
 have⟨x,rfl,W,O,Z,hp⟩:=h;have Y:∀o,H x=ς o->H' x=ς o:=λo e=>a.prot x o e hp
 have hs:∃o,H x=ς o/\NT o:=by
  cases t<;>try(cases W;done)
  .have⟨b,vs,e,rfl,h1,_⟩:=O;exact⟨_,h1,by intro _ z;cases z⟩
  .have⟨b,vs,e,rfl,h1,_⟩:=O;exact⟨_,h1,by intro _ z;cases z⟩
  .have⟨b,vs,e,rfl,h1,_⟩:=O;exact⟨_,h1,by intro _ z;cases z⟩
 have⟨o,h1,nt⟩:=hs;refine⟨x,rfl,W,Own.step a.old (λb o e h=>by cases e;exact Y o h) O,?_,λi hi e=>?_⟩
 .cases q:F' x with
  |none=>rfl
  |some w=>
   rcases a.nw x w q with z|z|⟨vs,z⟩
   .rw[Z]at z;cases z
   .rw[h1]at z;cases z
   .have y:=a.gh.fh x w q;rw[Y o h1]at y;cases y
    exact absurd z (nt vs)
 .by_cases U:i<ch.length
  .rw[a.ext i U]at e;exact hp i U e
  .have:=a.fr i (qn6.mp U) hi;rw[e,h1]at this;cases this
theorem RelS.adv(a:Adv G F H ρ ch F' H' ρ' ch')(h:RelS G F ρ ch.length c v):RelS G F' ρ' ch'.length c v:=h.mono a.old (λi hi=>a.ext i hi) a.len
theorem RelC.adv(a:Adv G F H ρ ch F' H' ρ' ch')(h:RelC G F H ρ ch.length c v):RelC G F' H' ρ' ch'.length c v:=by
 cases c with
 |own b t=>exact RelW.adv a h
 |g d=>exact RelS.adv (c:=.g d) a h
 |ref i=>exact RelS.adv (c:=.ref i) a h
 |fn x F0=>exact RelS.adv (c:=.fn x F0) a h
theorem RelCs.adv{l:η CV}(a:Adv G F H ρ ch F' H' ρ' ch')(h:RelCs G F H ρ ch.length l vs):RelCs G F' H' ρ' ch'.length l vs:=Paired.mapP h λ_ _ r=>r.adv a
end
structure Fr0 where
 F:Hp
 H:Hp
 ρ:Nat->J4
 ch:CH
structure Ge(G:Gx)(Φ:Fr0)(δ:Sl)(ch:CH)(σ:St)(F H:Hp)(ρ:Nat->J4):Prop where
 ad:Adv G Φ.F Φ.H Φ.ρ Φ.ch F H ρ ch
 len:δ.length=σ.length
 has:∀(i:Nat)(c:CV),δ[i]?=ς (ς c)->∃v,σ[i]?=ς (ς v)/\RelC G F H ρ ch.length c v
 nw:∀(i:Nat)(t:T)(a:J4),δ[i]?=ς (ς (.own θ t))->σ[i]?=ς (ς (.ref a))->Φ.H a=ψ
 dis:∀(i j:Nat)(t u:T)(b:Bool)(a:J4),i≠j->δ[i]?=ς (ς (.own θ t))->δ[j]?=ς (ς (.own b u))->σ[i]?=ς (ς (.ref a))->σ[j]?=ς (ς (.ref a))->False
variable{G:Gx}{Φ:Fr0}{δ:Sl}{ch:CH}{ρ:Nat->J4}
theorem Ge.gh{F:Hp}(e:Ge G Φ δ ch σ F H ρ):Gh G F H ρ ch:=e.ad.gh
abbrev RL(α β:Type):=Gx->Hp->Hp->Hp->(Nat->J4)->Nat->α->β->Prop
def y9(H:Hp)(c:CV)(v:V):Prop:=∀t,c=.own θ t->∀a,v=.ref a->H a=ψ
def RV:RL CV V:=λG O F H ρ n c v=>RelC G F H ρ n c v/\y9 O c v
def RB:RL Bool Bool:=λ_ _ _ _ _ _ a b=>a=b
def RA:RL (η CV) (η V):=λG _ F H ρ n c v=>RelCs G F H ρ n c v
abbrev FM(α:Type):=Sl->CH->ζ (α×CH)
abbrev Fg:=FM CV
def KM(G:Gx){α β:Type}(R:RL α β)(F H:Hp)(ρ:Nat->J4)(ch:CH)(a:α)(ch':CH)(Q:β->Hp->Prop):Prop:=∀b F' H' ρ',Adv G F H ρ ch F' H' ρ' ch'->R G H F' H' ρ' ch'.length a b->Q b H'
def tK(G:Gx){α β:Type}(R:RL α β)(f:η CV->FM α)(σ:St)(vs:η V)(H:Hp)(Q:β->Hp->Prop):Prop:=∃ Φ δ ch F ρ cs a ch',Ge G Φ δ ch σ F H ρ/\RelCs G F H ρ ch.length cs vs/\f cs δ ch=ς (a,ch')/\KM G R F H ρ ch a ch' Q
def tM(G:Gx){α β:Type}(R:RL α β)(f:FM α):St->Hp->(β->Hp->Prop)->Prop:=λσ H Q=>∃ Φ δ ch F ρ a ch',Ge G Φ δ ch σ F H ρ/\f δ ch=ς (a,ch')/\KM G R F H ρ ch a ch' Q
def GE(G:Gx)(X:Cx)(e:J8)(f:Fg):Prop:=PE X e (tM G RV f)
def GT(G:Gx)(X:Cx)(e:J8)(f:FM Bool):Prop:=PT X e (tM G RB f)
def GW(G:Gx)(X:Cx)(e:J8)(f:FM Bool):Prop:=PW X e (tM G RB f)
def GA(G:Gx)(X:Cx)(es:η J8)(f:FM (η CV)):Prop:=PABq X es (tM G RA f)
class RMono{α β:Type}(R:RL α β):Prop where
 m:∀{G H0 H1 F H ρ n a b},(∀x,H1 x=ψ->H0 x=ψ)->R G H1 F H ρ n a b->R G H0 F H ρ n a b
instance:RMono RV:=⟨λh r=>⟨r.1,λt e a q=>h a (r.2 t e a q)⟩⟩
instance:RMono RB:=⟨λ_ r=>r⟩
instance:RMono RA:=⟨λ_ r=>r⟩
section
variable{G:Gx}{Φ:Fr0}{F H F' H' F1 H1:Hp}{ρ ρ' ρ1:Nat->J4}{δ:Sl}{σ:St}{ch ch' ch1 ch2:CH}{c:CV}{v:V}{Q:VK}
theorem Ge.adv(e:Ge G Φ δ ch σ F H ρ)(a:Adv G F H ρ ch F' H' ρ' ch'):Ge G Φ δ ch' σ F' H' ρ':=⟨e.ad.trans a,e.len,λi c h=>let ⟨v,h1,h2⟩:=e.has i c h;⟨v,h1,h2.adv a⟩,e.nw,e.dis⟩
theorem KM.adv{α β:Type}{R:RL α β}[RMono R]{a:α}{Q:β->Hp->Prop}(k:KM G R F H ρ ch a ch' Q)(d:Adv G F H ρ ch F1 H1 ρ1 ch1):KM G R F1 H1 ρ1 ch1 a ch' Q:=λb F' H' ρ' d' r=>k b F' H' ρ' (d.trans d') (RMono.m d.hs r)
theorem KM.sol(k:KM G RV F H ρ ch c ch' Q)(a:Adv G F H ρ ch F' H' ρ' ch')(r:RelS G F' ρ' ch'.length c v):Q v H':=k v F' H' ρ' a ⟨r.toC,λt e=>by rw[e]at r;exact r.elim⟩
theorem KM.dat{d:Dt}(k:KM G RV F H ρ ch (.g d) ch Q)(g:Gh G F H ρ ch)(r:Rep G.K F d v):Q v H:=k.sol (.refl g) r
theorem bS{α β:Type}{x:ζ α}{f:α->ζ β}{b:β}(h:x.bind f=ς b):∃a,x=ς a/\f a=ς b:=qn2.mp h
theorem mS{α β:Type}{x:ζ α}{f:α->β}{b:β}(h:x.map f=ς b):∃a,x=ς a/\f a=b:=qe0.mp h
section
variable{α β:Type}{R:RL α β}[RMono R]{f fa fb fc:Fg}{fs:FM (η CV)}{ft:FM Bool}{k:η CV->FM α}{Q Q':β->Hp->Prop}
theorem tM.imp{f:FM α}(h:tM G R f σ H Q)(i:∀b H',Q b H'->Q' b H'):tM G R f σ H Q':=let ⟨Φ,δ,ch,F,ρ,a,ch',en,hf,k⟩:=h;⟨Φ,δ,ch,F,ρ,a,ch',en,hf,λb F' H' ρ' d r=>i b H' (k b F' H' ρ' d r)⟩
theorem tK.one(h:tM G R (λδ ch=>(fa δ ch).bind λp=>k [p.1] δ p.2) σ H Q):tM G RV fa σ H λx H1=>tK G R k σ [x] H1 Q:=by have⟨Φ,δ,ch,F,ρ,a,ch',en,hf,U⟩:=h;have⟨p,h1,hf⟩:=bS hf;exact⟨Φ,δ,ch,F,ρ,p.1,p.2,en,h1,λx F1 H1 ρ1 d1 O=>⟨Φ,δ,p.2,F1,ρ1,[p.1],a,ch',en.adv d1,.cons O.1 .nil,hf,U.adv d1⟩⟩
theorem tK.two(h:tM G R (λδ ch=>(fa δ ch).bind λp=>(fb δ p.2).bind λq=>k [p.1,q.1] δ q.2) σ H Q):tM G RV fa σ H λx H1=>tM G RV fb σ H1 λy H2=>tK G R k σ [x,y] H2 Q:=by have⟨Φ,δ,ch,F,ρ,a,ch',en,hf,O⟩:=h;have⟨p,h1,hf⟩:=bS hf;have⟨q,h2,hf⟩:=bS hf;exact⟨Φ,δ,ch,F,ρ,p.1,p.2,en,h1,λx F1 H1 ρ1 d1 U=>⟨Φ,δ,p.2,F1,ρ1,q.1,q.2,en.adv d1,h2,λy F2 H2 ρ2 d2 W=>⟨Φ,δ,q.2,F2,ρ2,[p.1,q.1],a,ch',(en.adv d1).adv d2,.cons (U.1.adv d2) (.cons W.1 .nil),hf,(O.adv d1).adv d2⟩⟩⟩
theorem tK.args(h:tM G R (λδ ch=>(fs δ ch).bind λp=>k p.1 δ p.2) σ H Q):tM G RA fs σ H λus H1=>tK G R k σ us H1 Q:=by have⟨Φ,δ,ch,F,ρ,a,ch',en,hf,U⟩:=h;have⟨p,h1,hf⟩:=bS hf;exact⟨Φ,δ,ch,F,ρ,p.1,p.2,en,h1,λx F1 H1 ρ1 d1 O=>⟨Φ,δ,p.2,F1,ρ1,p.1,a,ch',en.adv d1,O,hf,U.adv d1⟩⟩
theorem tK.test{k:Bool->FM α}(h:tM G R (λδ ch=>(ft δ ch).bind λp=>k p.1 δ p.2) σ H Q):tM G RB ft σ H λb H1=>tM G R (k b) σ H1 Q:=by have⟨Φ,δ,ch,F,ρ,a,ch',en,hf,U⟩:=h;have⟨p,h1,hf⟩:=bS hf;exact⟨Φ,δ,ch,F,ρ,p.1,p.2,en,h1,λx F1 H1 ρ1 d1 O=>by cases O;exact⟨Φ,δ,p.2,F1,ρ1,a,ch',en.adv d1,hf,U.adv d1⟩⟩
end
end
variable{J0:η (J4×Obj)}{A:ql0}{Q:Value->qa8->Prop}
section
variable{X:Cx}{o a b e c:J8}{es:η J8}{fa fb fo fe:De->ζ Dt}{fs:De->ζ (η Dt)}{pos apos cpos p:Pos}{x:Str}{sc:J9}{i:Nat}
def za(K:xA9)(mg:Str->ζ Value)(x:Str)(d:Dt):Prop:=∃v,(∃u,mg x=ς u/\RelV v u)/\∀F,Rep K F d v
noncomputable def tD:Dt->Bool
 |_=>ξ
noncomputable def tyD:Dt->String
 |.non=>"NoneType"
 |.bl _=>"bool"
 |.int _=>"int"
 |.str _=>"str"
 |.t _=>"tuple"
 |.e _=>"list"
 |.dct _ _=>"dict"
 |.dcT _ _=>"dict"
noncomputable def cX(c:String):Dt->Bool
 |.non=>c=="NoneType"
 |.bl _=>c=="bool"||c=="int"
 |.int _=>c=="int"
 |.str _=>c=="str"
 |.t _=>c=="tuple"
 |.e _=>c=="list"
 |.dct _ _=>c=="dict"
 |.dcT _ _=>c=="dict"
theorem na {s:qa8} {E:Value->qa8->Prop} {c:Value} {b:Bool} {v:V} {u:Value} {d:Dt} (I:Inv X J0 σ H s) (O:RelV v u) (r:Rep X.K H d v) (hi:tD d=ξ) (e:xI9 X.K (.type (tyD d)) c=ς b) (h:∀ Y,Q (.bool b) {s with toks:=Y}) :
  wpAny (model X.prog X.w) A (call (.builtin "isinstance") [u,c]) Q E s:=by
 cases d with
 |non=>rwa[Rep]at r;subst r;exact dv I O .non e h
 |bl y=>rwa[Rep]at r;subst r;exact dv I O (.bl y) e h
 |int y=>rwa[Rep]at r;subst r;exact dv I O (.int y) e h
 |str y=>rwa[Rep]at r;subst r;exact dv I O (.str y) e h
 |t l=>rwa[Rep]at r;have⟨a,vs,rfl,h1,h2⟩:=r;cases O;have⟨J3,_,pl,_⟩:=I.tuple h1;have⟨o,U,e2,_⟩:=pl;exact xC9 PySem.W.kitx_tuple I.kIn ⟨o,U,e2⟩ e (λz=>nomatch z) h
 |e l=>rwa[Rep]at r;have⟨a,vs,rfl,h1,h2⟩:=r;cases O;have⟨J3,_,pl,_⟩:=I.list h1;have⟨o,n,U,e2,_⟩:=pl;exact xC9 xU9 I.kIn ⟨o,U,e2⟩ e (λz=>nomatch z) h
 |dct ks l=>rwa[Rep]at r;have⟨a,J1,rfl,h1,_⟩:=r;cases O;have⟨_,_,vs,_,p⟩:=gb I.hok h1;have⟨o,es,ep,U,e2,_⟩:=p;exact xC9 xN9 I.kIn ⟨o,U,e2.1⟩ e (λz=>nomatch z) h
 |dcT ks l=>rwa[Rep]at r;have⟨a,J1,rfl,h1,_⟩:=r;cases O;have⟨_,_,xs,_,o,es,ep,U,e2,_⟩:=(show ObjOk X.prog X.w H s.heap a (.dT J1)from h1.ok I.hok);exact xC9 xN9 I.kIn ⟨o,U,e2.1⟩ e (λz=>nomatch z) h
def kl(K:xA9)(c:String):Prop:=∀d:Dt,tD d=ξ->xI9 K (.type (tyD d)) (.type c)=ς (cX c d)
theorem nc:bR X (.builtin "isinstance") (λxs H Q=>∃v c d b,xs=[v,.ty c]/\Rep X.K H d v/\tD d=ξ/\xI9 X.K (.type (tyD d)) (.type c)=ς b/\Q (.bl b) H):=by intro J0 s σ H xs us Q I r h;have⟨v,c,d,b,rfl,rd,hi,e,q⟩:=h;have⟨u,Y,rfl,U,O⟩:=yO r;cases O;exact na I U rd hi e λZ=>⟨.bl b,H,I.tok _,rfl,q⟩
def MRD(K:xA9)(r:V->η V->Hp->VK->Prop)(g:Dt->η Dt->ζ T):Prop:=∀F H d v ds vs (Q:VK) t,Same F H->RepB K F H d v->lF K F H ds vs->g d ds=ς t->KO K F H t Q->r v vs H Q
noncomputable def cY:η Dt->ζ (η Str)
 |[]=>ς []
 |.str b::r=>(cY r).map (b::·)
 |_=>ψ
theorem fM{F:Hp}:∀{l:η Dt}{vs:η V}{bs:η Str},Reps K F l vs->cY l=ς bs->vs=bs.map V.str
 |[],vs,bs,r,h=>by cases h;rwa[Reps]at r;exact r
 |d::l,vs,bs,r,h=>by
  cases d<;>first|cases h;done|skip
  rwa[cY]at h;have⟨cs,hc,h⟩:=qe0.mp h;cases h;rwa[Reps,Rep]at r;have⟨v,ws,rfl,rfl,O⟩:=r;rw[fM O hc];rfl
def km:Dt->η Dt->ζ T
 |.str a,[.e l]=>(cY l).bind λts=>if JoinOk a ts then ς (.f (.str (zf6 a ts)))else ψ
 |_,_=>ψ
omit x in
theorem wZ:MRD K (λx vs H Q=>∃(a:Str)(l:J4)(ts:η Str),x=.str a/\vs=[.ref l]/\SqL K H l (ts.map V.str)/\JoinOk a ts=θ/\Q (.str (zf6 a ts)) H) km:=by
 intro F H d v ds vs Q t fh rd Y O k;unfold km at O;split at O<;>first|cases O;done|skip
 have⟨ts,U,O⟩:=qn2.mp O;split at O
 .rename_i W;cases O;cases rd;have⟨v,rfl,Z⟩:=cq Y;have⟨a,vs,rfl,h1,h2⟩:=Z;have:=fM h2 U;subst this;exact⟨_,a,ts,rfl,rfl,h1,W,k.str fh⟩
 .cases O
end
noncomputable def am{κ:Type}[DecidableEq κ]:η κ->η Dt->κ->ζ Dt
 |k'::ks,d::l,k=>if k'=k then ς d else am ks l k
 |_,_,_=>ψ
theorem fQ{κ:Type}[DecidableEq κ]{F:Hp}{k:κ}:∀{J1:η (κ×V)}{l:η Dt}{d:Dt},Reps K F l (J1.map (·.2))->am (J1.map (·.1)) l k=ς d->∃v,bA J1 k=ς v/\Rep K F d v
 |[],l,d,r,h=>by cases l<;>cases h
 |p::J1,[],d,r,h=>by cases h
 |p::J1,e::l,d,r,h=>by
  rwa[qa3,Reps]at r;have⟨v,ws,Y,U,W⟩:=r;cases Y;rwa[qa3,am]at h;by_cases O:p.1=k
  .rw[if_pos O]at h;cases h;exact⟨p.2,eu O,U⟩
  .rw[if_neg O]at h;rw[cR O];exact fQ W h
theorem fR{κ:Type}[DecidableEq κ]{F:Hp}{k:κ}:∀{J1:η (κ×V)}{l:η Dt},Reps K F l (J1.map (·.2))->am (J1.map (·.1)) l k=ψ->bA J1 k=ψ
 |[],l,r,h=>rfl
 |p::J1,[],r,h=>by rwa[qa3,Reps]at r;cases r
 |p::J1,e::l,r,h=>by
  rwa[qa3,Reps]at r;have⟨v,ws,W,Y,U⟩:=r;cases W;rwa[qa3,am]at h;by_cases O:p.1=k
  .rw[if_pos O]at h;cases h
  .rw[if_neg O]at h;rw[cR O];exact fR U h
noncomputable def cN:Dt->ζ Key
 |.int i=>ς (.inl i)
 |.str x=>ς (.inr x)
 |_=>ψ
theorem dw{F:Hp}{d:Dt}{v:V}{k:Key}(r:RepB K F H d v)(h:cN d=ς k):v=kV k:=by
 unfold cN at h;rcases h
 .cases h;exact r
 .cases h;exact r
def gIxA:Dt->Dt->ζ T
 |.dct ks l,k=>(cN k).bind λk=>(am ks l k).map .f
 |x,y=>gIx x y
section
variable{X:Cx}{o a b e c:J8}{es:η J8}{fa fb fo fe fk:De->ζ Dt}{fs:De->ζ (η Dt)}{pos apos cpos p:Pos}{x:Str}{sc:J9}{i:Nat}
noncomputable def aZ{κ:Type}[DecidableEq κ]:η (κ×Dt)->κ->Dt->η (κ×Dt)
 |[],k,d=>[(k,d)]
 |p::l,k,d=>if p.1=k then(p.1,d)::l else p::aZ l k d
end
def vwO:CO->ζ Dt
 |.e l=>(dats l).map .e
 |.dK l=>(dats (l.map (·.2))).map (.dct (l.map (·.1)))
 |.dT l=>(dats (l.map (·.2))).map (.dcT (l.map (·.1)))
 |_=>ψ
def vw(ch:CH):CV->ζ Dt
 |.g d=>ς d
 |.ref i=>(ch[i]?).bind vwO
 |.own _ t=>t.d
 |.fn _ _=>ψ
def vws(ch:CH):η CV->ζ (η Dt)
 |[]=>ς []
 |c::l=>(vw ch c).bind λd=>(vws ch l).map (d::·)
section
variable{G:Gx}{Φ:Fr0}{F H F' H' F1 H1:Hp}{ρ ρ' ρ1:Nat->J4}{n:Nat}{δ:Sl}{σ:St}{ch ch' ch1 ch2:CH}{c:CV}{v:V}{Q:VK}{d:Dt}{t:T}
theorem aO(g:Gh G F H ρ ch)(r:RelC G F H ρ ch.length c v)(h:vw ch c=ς d):RepB G.K F H d v:=by
 cases c with
 |g e=>cases h;exact RepB.of g.fh r
 |fn _ _=>cases h
 |own b t=>have⟨a,rfl,_,Y,_⟩:=r;exact Y.repB g.fh h
 |ref i=>
  have⟨_,rfl⟩:=r;have⟨o,h1,h2⟩:=bS h;have O:=g.ok i o h1;cases o with
  |e l=>have⟨ds,q,rfl⟩:=mS h2;have⟨vs,e,U⟩:=O;exact⟨_,vs,rfl,SqL.of e,aX q U⟩
  |t l=>cases h2
  |dK l=>have⟨ds,q,rfl⟩:=mS h2;have⟨_,vs,e,W,U⟩:=O;exact⟨_,vs,rfl,.of e,W,aX q U⟩
  |dT l=>have⟨ds,q,rfl⟩:=mS h2;have⟨_,vs,e,W,U⟩:=O;exact⟨_,vs,rfl,.of e,W,aX q U⟩
  |ins c l=>cases h2
theorem fU(g:Gh G F H ρ ch):∀{l:η CV}{ds:η Dt}{vs:η V},RelCs G F H ρ ch.length l vs->vws ch l=ς ds->lF G.K F H ds vs
 |[],_,_,.nil,h=>by cases h;exact rfl
 |c::l,_,_,.cons r t,h=>by have⟨d,h1,h2⟩:=bS h;have⟨ds,O,rfl⟩:=mS h2;exact⟨_,_,rfl,aO g r h1,fU g t O⟩
inductive Md where|v|o|w
noncomputable def al(ch:CH):T->ζ (CV×CH)
 |.f d=>ς (.g d,ch)
 |.e l=>ς (.ref ch.length,ch++[.e (l.map .g)])
 |.dct l=>if(l.map (·.1)).Nodup then ς (.ref ch.length,ch++[.dK (l.map λp=>(p.1,.g p.2))])else ψ
 |.dcT l=>if(l.map (·.1)).Nodup then ς (.ref ch.length,ch++[.dT (l.map λp=>(p.1,.g p.2))])else ψ
 |_=>ψ
def fin(m:Md)(ch:CH)(t:T):ζ (CV×CH):=match m with
 |.v=>t.d.map λd=>(.g d,ch)
 |.o=>al ch t
 |.w=>if t.own then ς (.own θ t,ch)else ψ
omit x in
theorem bL{m:Md}(g:Gh G F H ρ ch)(h:fin m ch t=ς (c,ch'))(k:KM G RV F H ρ ch c ch' Q):KO G.K F H t Q:=by
 have f:∀{d:Dt},KM G RV F H ρ ch (.g d) ch Q->KL G.K F H d Q:=λk v H' F' st r=>k.sol (.of g st) r
 cases m with
 |v=>have h:t.d.map (λd=>(CV.g d,ch))=ς (c,ch'):=h;have⟨d,hd,e⟩:=mS h;cases e;exact KL.to hd (f k)
 |w=>
  have h:(if t.own then ς (CV.own θ t,ch)else ψ)=ς (c,ch'):=h;rcases h
  rename_i U;cases h;intro v H' F' S st o hs
  have ha:∃a,v=.ref a:=by
   cases t<;>try(cases U;done)
   all_goals (have⟨a,_,e,_⟩:=o;exact⟨a,e⟩)
  have⟨a,rfl⟩:=ha;have O:=qm U o;refine k _ F' H' ρ (.of g st) ⟨⟨a,rfl,U,?_,(hs a O).1,λi hi e=>?_⟩,λ_ _ b e=>by cases e;exact(hs a O).2.1⟩
  .cases t<;>try(cases U;done)
   all_goals (have⟨b,vs,e,_,r⟩:=o;cases e;exact⟨a,vs,rfl,rfl,r⟩)
  .have⟨u,Z⟩:=g.at hi;rw[e,(hs a O).2.1]at Z;cases Z
 |o=>
  cases t with
  |f d=>cases h;exact KL.to rfl (f k)
  |e l=>cases h;rintro v H' F' S st ⟨a,vs,rfl,O,h1,h2⟩ hs;refine k.sol (.new g st (hs a O).2.1 (hs a O).1 ⟨vs,h1,RelSs.dats h2⟩) ⟨Ξ,?_⟩;simp
  |dct l=>
   have h:(if(l.map (·.1)).Nodup then ς (CV.ref ch.length,ch++[CO.dK (l.map λp=>(p.1,CV.g p.2))])else ψ)=ς (c,ch'):=h;split at h<;>cases h
   rename_i Y;rintro v H' F' S st ⟨a,vs,rfl,O,h1,h2,W⟩ hs;refine k.sol (.new g st (hs a O).2.1 (hs a O).1 ⟨by rw[qd2];exact Y,vs,h1,by rw[h2,qd2];rfl,?_⟩) ⟨Ξ,Ξ⟩;have:=RelSs.dats (G:=G) (F:=F') (ρ:=λi=>if i=ch.length then a else ρ i) (n:=ch.length+1) W
   rw[qd2]at this ⊢;assumption
  |dcT l=>
   have h:(if(l.map (·.1)).Nodup then ς (CV.ref ch.length,ch++[CO.dT (l.map λp=>(p.1,CV.g p.2))])else ψ)=ς (c,ch'):=h;split at h<;>cases h
   rename_i Y;rintro v H' F' S st ⟨a,vs,rfl,O,h1,h2,W⟩ hs;refine k.sol (.new g st (hs a O).2.1 (hs a O).1 ⟨by rw[qd2];exact Y,vs,h1,by rw[h2,qd2];rfl,?_⟩) ⟨Ξ,Ξ⟩;have:=RelSs.dats (G:=G) (F:=F') (ρ:=λi=>if i=ch.length then a else ρ i) (n:=ch.length+1) W
   rw[qd2]at this ⊢;assumption
  |fn a F0=>cases h
  |exc _ _=>cases h
  |rse _ _=>cases h
end
variable{r:R2}{y:V}
section
variable{G:Gx}{X:Cx}{e a b c o:J8}{es rest:η J8}{f fa fb fc:Fg}{fs:FM (η CV)}{ta tb tc:FM Bool}{pos apos cpos p:Pos}{i:Nat}{m:Md}{d:Dt}
noncomputable def eK(d:Dt):Fg:=λ_ ch=>ς (.g d,ch)
theorem tE{v:V}(h:PE X e (tC v))(r:∀F,Rep G.K F d v):GE G X e (eK d):=PE.mono h λσ H Q O=>by have⟨Φ,δ,ch,F,ρ,a,ch',en,hf,k⟩:=O;cases hf;exact k.dat en.gh (r F)
noncomputable def lent:CV->CV
 |.own _ t=>.own ξ t
 |c=>c
noncomputable def eV(i:Nat):Fg:=λδ ch=>match δ[i]? with
 |some (ς c)=>ς (lent c,ch)
 |_=>ψ
omit x in
theorem A6(h:PE X e (pY i)):GE G X e (eV i):=PE.mono h λσ H Q O=>by
 have⟨Φ,δ,ch,F,ρ,a,ch',en,hf,k⟩:=O;unfold eV at hf;rcases hf
 rename_i c hc;cases hf;have⟨v,h1,h2⟩:=en.has i c hc;refine⟨v,h1,k v F H ρ (.refl en.gh) ⟨?_,λt e=>?_⟩⟩
 .cases c<;>exact h2
 .cases c<;>cases e
def k2(m:Md)(g:Dt->Dt->ζ T):η CV->Fg:=λcs _ ch=>match cs with
 |[x,y]=>(vw ch x).bind λx=>(vw ch y).bind λy=>(g x y).bind (fin m ch)
 |_=>ψ
def e2(m:Md)(g:Dt->Dt->ζ T)(fa fb:Fg):Fg:=λδ ch=>(fa δ ch).bind λp=>(fb δ p.2).bind λq=>(vw q.2 p.1).bind λx=>(vw q.2 q.1).bind λy=>(g x y).bind (fin m q.2)
theorem DE{g:Dt->Dt->ζ T}(Z:R2D G.K r g){Q:VK}{x:V}(h:tK G RV (k2 m g) σ [x,y] H Q):r x y H Q:=by have⟨Φ,δ,ch,F,ρ,cs,c,ch',en,Y,hf,k⟩:=h;obtain _|⟨U,_|⟨W,_|_⟩⟩:=Y;have⟨x,hx,hf⟩:=bS hf;have⟨y,hy,hf⟩:=bS hf;have⟨t,O,hf⟩:=bS hf;exact Z F H x y _ _ Q t en.gh.fh (aO en.gh U hx) (aO en.gh W hy) O (bL en.gh hf k)
theorem tF{g:Dt->Dt->ζ T}(O:R2D G.K r g){Q:VK}(h:tM G RV (e2 m g fa fb) σ H Q):tOp r (tM G RV fa) (tM G RV fb) σ H Q:=(tK.two (k:=k2 m g) h).imp λ_ _ h=>h.imp λ_ _ h=>DE O h
theorem A7{op:qp3}{g:Dt->Dt->ζ T}(O:OpR X (qh7 op) r)(W:R2D G.K r g)(U:GE G X a fa)(hb:GE G X b fb):GE G X (.BinOp a op b pos) (e2 m g fa fb):=PE.mono (Di O U hb) λ_ _ _=>tF W
theorem A8{op:CmpOp}{g:Dt->Dt->ζ T}(O:OpR X (qe7 op) r)(Y:R2D G.K r g)(U:GE G X a fa)(hb:GE G X b fb)(W:qy8 op b=ξ):GE G X (.Compare a [op] [b] pos) (e2 m g fa fb):=PE.mono (wp O U hb W) λ_ _ _=>tF Y
noncomputable def dO:CV->ζ Bool
 |.g (.bl b)=>ς b
 |_=>ψ
theorem oJ{F:Hp}{n:Nat}{c:CV}{b:Bool}{v:V}(h:dO c=ς b)(r:RelC G F H ρ n c v):v=.bl b:=by
 cases c with
 |g d=>cases d<;>cases h;exact r
 |_=>cases h
def iZ(f:Fg):FM Bool:=λδ ch=>(f δ ch).bind λp=>(dO p.1).map λb=>(b,p.2)
theorem w6{Q:Bool->Hp->Prop}(h:tM G RB (iZ f) σ H Q):tM G RV f σ H λx H'=>∃k,x=.bl k/\Q k H':=by
 refine(tK.one (k:=λcs _ ch=>match cs with|[c]=>(dO c).map λb=>(b,ch)|_=>ψ) h).imp λx H' h=>?_
 have⟨Φ,δ,ch,F,ρ,cs,c,ch',en,U,hf,k⟩:=h;obtain _|⟨O,_|_⟩:=U;have⟨q,hb,e⟩:=mS hf;cases e;exact⟨_,oJ hb O,k _ F H' ρ (.refl en.gh) rfl⟩
theorem A9{op:CmpOp}{g:Dt->Dt->ζ T}(U:OpR X (qe7 op) r)(Y:R2D G.K r g)(O:GE G X a fa)(hb:GE G X b fb)(W:qy8 op b=ξ):GT G X (.Compare a [op] [b] pos) (iZ (e2 m g fa fb)):=PT.mono (wq U O hb W) λ_ _ _ h=>tF Y (w6 h)
def gm(f:Fg):FM Bool:=λδ ch=>(f δ ch).bind λp=>(vw p.2 p.1).bind λd=>(qo d).map λb=>(b,p.2)
theorem Ba(hK:X.K=G.K)(U:GE G X a fa)(W:∀O,isTrue a X.env O=(do let v <- O;qw6 a.pos;qo9 [v] (truthy v))):GT G X a (gm fa):=PT.mono (rV U W) λσ H Q h=>by
 refine(tK.one (k:=λcs _ ch=>match cs with|[c]=>(vw ch c).bind λd=>(qo d).map λb=>(b,ch)|_=>ψ) h).imp λx H' h=>?_
 have⟨Φ,δ,ch,F,ρ,cs,c,ch',en,rs,hf,k⟩:=h;obtain _|⟨Y,_|_⟩:=rs;have⟨d,Z,hf⟩:=bS hf;have⟨q,hb,e⟩:=mS hf;cases e;exact⟨_,by rw[hK];exact wR en.gh.fh (aO en.gh Y Z) hb,k _ F H' ρ (.refl en.gh) rfl⟩
variable{σ:St}{H:Hp}
noncomputable def tNt(f:FM Bool):FM Bool:=λδ ch=>(f δ ch).map λp=>(!p.1,p.2)
noncomputable def tAn(f g:FM Bool):FM Bool:=λδ ch=>(f δ ch).bind λp=>if p.1 then g δ p.2 else ς (ξ,p.2)
noncomputable def tG(f g:FM Bool):FM Bool:=λδ ch=>(f δ ch).bind λp=>if p.1 then ς (θ,p.2)else g δ p.2
theorem tM.ret{α β:Type}{R:RL α β}{x:α}{y:β}{Q:β->Hp->Prop}(h:tM G R (λ_ ch=>ς (x,ch)) σ H Q)(r:∀F ρ n,R G H F H ρ n x y):Q y H:=by have⟨Φ,δ,ch,F,ρ,a,ch',en,hf,k⟩:=h;cases hf;exact k y F H ρ (.refl en.gh) (r _ _ _)
theorem Bb(h:GT G X a ta):GT G X (.UnaryOp .Not a pos) (tNt ta):=PT.mono (zW h) λσ H Q O=>by have⟨Φ,δ,ch,F,ρ,c,ch',en,hf,k⟩:=O;have⟨p,h1,e⟩:=mS hf;cases e;exact⟨Φ,δ,ch,F,ρ,p.1,p.2,en,h1,λb F' H' ρ' d r=>by cases r;exact k _ F' H' ρ' d rfl⟩
theorem Bc{Q:Bool->Hp->Prop}(h:tM G RB (tAn ta tb) σ H Q):tAnd (tM G RB ta) (tM G RB tb) σ H Q:=(tK.test (k:=λb δ ch=>if b then tb δ ch else ς (ξ,ch)) h).imp λb H' h=>by
 cases b with
 |true=>exact h
 |false=>exact h.ret λ_ _ _=>rfl
theorem Be{Q:Bool->Hp->Prop}(h:tM G RB (tG ta tb) σ H Q):tOr (tM G RB ta) (tM G RB tb) σ H Q:=(tK.test (k:=λb δ ch=>if b then ς (θ,ch)else tb δ ch) h).imp λb H' h=>by
 cases b with
 |true=>exact h.ret λ_ _ _=>rfl
 |false=>exact h
theorem w8(h:GT G X a ta):GW G X (.BoolOp .And [a] pos) ta:=we h
theorem Bg(h:GT G X a ta):GW G X (.BoolOp .Or [a] pos) ta:=zU h
theorem tH(h:GT G X a ta)(h':GW G X (.BoolOp .And (b::rest) pos) tb):GW G X (.BoolOp .And (a::b::rest) pos) (tAn ta tb):=PW.mono (zV h h') λ_ _ _ h=>Bc h
theorem zb(h:GT G X a ta)(h':GW G X (.BoolOp .Or (b::rest) pos) tb):GW G X (.BoolOp .Or (a::b::rest) pos) (tG ta tb):=PW.mono (C6 h h') λ_ _ _ h=>Be h
theorem GW.t(h:GW G X a ta):GT G X a ta:=PW.pt h
def eAn(f g:Fg):Fg:=λδ ch=>(f δ ch).bind λp=>(dO p.1).bind λb=>if b then g δ p.2 else ς (.g (.bl ξ),p.2)
def eNt(f:Fg):Fg:=λδ ch=>(f δ ch).bind λp=>(dO p.1).bind λb=>ς (.g (.bl (!b)),p.2)
theorem Bh{op}(h:GE G X a fa):GE G X (.BoolOp op [a] pos) fa:=zX h
theorem zc{α β:Type}{R:RL α β}[RMono R]{kk:Bool->FM α}{Q:β->Hp->Prop}(h:tM G R (λδ ch=>(fa δ ch).bind λp=>(dO p.1).bind λb=>kk b δ p.2) σ H Q):tM G RV fa σ H λx H1=>∃c,x=.bl c/\tM G R (kk c) σ H1 Q:=by
 refine(tK.one (k:=λcs δ ch=>match cs with|[c]=>(dO c).bind λb=>kk b δ ch|_=>ψ) h).imp λx H' h=>?_
 have⟨Φ,δ,ch,F,ρ,cs,c,ch',en,U,hf,k⟩:=h;obtain _|⟨O,_|_⟩:=U;have⟨q,hb,e⟩:=bS hf;exact⟨q,oJ hb O,Φ,δ,ch,F,ρ,c,ch',en,e,k⟩
theorem tJ{d:Dt}{v:V}(r:∀F,Rep G.K F d v):∀F ρ n,RV G H F H ρ n (.g d) v:=λF _ _=>⟨r F,λ_ e=>nomatch e⟩
theorem Bi(h:GE G X a fa):GE G X (.UnaryOp .Not a pos) (eNt fa):=PE.mono (zZ h) λσ H Q h=>(zc (kk:=λb _ ch=>ς (CV.g (.bl (!b)),ch)) h).imp λx H' O=>by have⟨c,e,h⟩:=O;exact⟨c,e,h.ret (tJ λ_=>ia)⟩
theorem tL(h:GE G X a fa)(h':GE G X (.BoolOp .And (b::rest) pos) fb):GE G X (.BoolOp .And (a::b::rest) pos) (eAn fa fb):=PE.mono (zY h h') λσ H Q h=>(zc (kk:=λb δ ch=>if b then fb δ ch else ς (.g (.bl ξ),ch)) h).imp λx H' O=>by have⟨c,e,h⟩:=O;exact⟨c,e,by
 cases c with
 |true=>exact h
 |false=>exact h.ret (tJ λ_=>ia)⟩
noncomputable def eIf(c:FM Bool)(f g:Fg):Fg:=λδ ch=>(c δ ch).bind λp=>if p.1 then f δ p.2 else g δ p.2
theorem DF(hc:GT G X c tc)(h:GE G X a fa)(h':GE G X b fb):GE G X (.IfExp c a b pos) (eIf tc fa fb):=PE.mono (rH hc h h') λσ H Q h=>(tK.test (k:=λb δ ch=>if b then fa δ ch else fb δ ch) h).imp λb H' h=>by cases b<;>exact h
noncomputable def cu:CV->ζ Int
 |.g (.int i)=>ς i
 |_=>ψ
theorem cw{F:Hp}{n:Nat}{c:CV}{b:Int}{v:V}(h:cu c=ς b)(r:RelC G F H ρ n c v):v=.int b:=by
 cases c with
 |g d=>cases d<;>cases h;exact r
 |_=>cases h
def eNg(f:Fg):Fg:=λδ ch=>(f δ ch).bind λp=>(cu p.1).bind λi=>ς (.g (.int (-i)),p.2)
theorem Bj(h:GE G X a fa):GE G X (.UnaryOp .USub a pos) (eNg fa):=PE.mono (Dj Ar h) λσ H Q h=>by
 refine(tK.one (k:=λcs _ ch=>match cs with|[c]=>(cu c).bind λi=>ς (CV.g (.int (-i)),ch)|_=>ψ) h).imp λx H' h=>?_
 have⟨Φ,δ,ch,F,ρ,cs,c,ch',en,U,hf,k⟩:=h;obtain _|⟨O,_|_⟩:=U;have⟨q,hb,e⟩:=bS hf;cases e;exact⟨q,cw hb O,k.dat en.gh ba⟩
noncomputable def aNl:FM (η CV):=λ_ ch=>ς ([],ch)
noncomputable def aCn(f:Fg)(fs:FM (η CV)):FM (η CV):=λδ ch=>(f δ ch).bind λp=>(fs δ p.2).map λq=>(p.1::q.1,q.2)
theorem Bk:GA G X [] aNl:=PABq.mono cj λσ H Q h=>h.ret λ_ _ _=>.nil
theorem w9(h:GE G X e f)(Y:GA G X es fs)(hs:qb3 (e::es) X.env=(ξ,eval e X.env)::qb3 es X.env):GA G X (e::es) (aCn f fs):=PABq.mono (bp h Y hs) λσ H Q O=>by have⟨Φ,δ,ch,F,ρ,c,ch',en,hf,k⟩:=O;have⟨p,h1,hf⟩:=bS hf;have⟨q,h2,e⟩:=mS hf;cases e;exact⟨Φ,δ,ch,F,ρ,p.1,p.2,en,h1,λx F1 H1 ρ1 d1 U=>⟨Φ,δ,p.2,F1,ρ1,q.1,q.2,en.adv d1,h2,λus F2 H2 ρ2 d2 W=>(k.adv d1) _ F2 H2 ρ2 d2 (.cons (U.1.adv d2) W)⟩⟩
end
variable{C:J4}
theorem ClsAt.inj{c:Str}{C':J4}(h:ClsAt K c C)(h':ClsAt K c C'):C=C':=by unfold ClsAt at h h';rw[h]at h';cases h';rfl
section
variable{X:Cx}
def Bl:R2:=λx y H Q=>∃a v,x=.ref a/\DGet H a y (ς v)/\Q v H
theorem xa(Y:X.A.units+1<cLine):IxR X Bl:=by
 intro value O J0 s σ H x y v u Q I rx ry ⟨a,w,ex,g,q⟩ hs;subst ex;obtain rfl:v=qc3 a:=rx;have W:=lz I g;unfold ze0;refine wB ?_;rw[getitemInPython_of_ne W.not_modules];refine wB (wpAny_specialOf W PySem.F.slot_dict_getitem.lookup ?_)
 have fin:wpAny (model X.prog X.w) X.A (subscripted O ξ (.ref a) u) (λr s₃=>wpAny (model X.prog X.w) X.A (letTemporaryGo value (.ref a) r >>= λ_=>pure r) (EP X J0 σ Q) X.xe s₃) X.xe s:=by rw[hs];exact wpAny_operating (qe Y I g ry λw' s3 Z U=>wB (wpAny_letTemporaryGo (qa6 ⟨w,H,Z,U,q⟩)))
 first
  |exact qa6 (wB fin)
  |exact wB (qa6 (wB fin))
  |exact wB fin
def Bm(O:Bool):R2:=λy x H Q=>∃a o,x=.ref a/\DGet H a y o/\Q (.bl (if O then !o.isSome else o.isSome)) H
theorem Bn(O:X.A.units+1<cLine):OpR X (qe7 .In) (Bm ξ):=by intro J0 s σ H y x iv u Q I W Y ⟨a,o,ex,g,q⟩;subst ex;obtain rfl:u=qc3 a:=Y;exact d_in O I g W λs3 U=>⟨.bl o.isSome,H,U,rfl,q⟩
theorem qu(O:X.A.units+1<cLine):OpR X (qe7 .NotIn) (Bm θ):=by intro J0 s σ H y x iv u Q I W Y ⟨a,o,ex,g,q⟩;subst ex;obtain rfl:u=qc3 a:=Y;exact wI O I g W λs3 U=>⟨.bl (!o.isSome),H,U,rfl,q⟩
def zd:rM:=λo i v H Q=>∃a H',o=.ref a/\DPut H a i v H'/\Q H'
theorem tN(U:X.A.units+1<cLine):PSet X zd:=by intro J0 s σ H o i v ov iv u Q I O W Z ⟨a,H',ex,g,q⟩;subst ex;obtain rfl:ov=qc3 a:=O;exact qg U I g W Z λs4 Y=>⟨H',Y,q⟩
theorem PSet.or{r U:rM}(h:PSet X r)(h':PSet X U):PSet X (λo i v H Q=>r o i v H Q\/U o i v H Q):=by
 intro J0 s σ H o i v Z iv u Q I O W Y q;rcases q with q|q
 .exact h J0 s σ H o i v Z iv u Q I O W Y q
 .exact h' J0 s σ H o i v Z iv u Q I O W Y q
end
variable{ks:η Key}{vk:V}{as:TA}{pl:Sem Bool}
section
variable{G:Gx}{X:Cx}{e a b c o:J8}{es rest:η J8}{f fa fb fc:Fg}{fs:FM (η CV)}{ta tb tc:FM Bool}{pos apos cpos p:Pos}{i:Nat}{m:Md}{d:Dt}{σ:St}{F H:Hp}{ρ:Nat->J4}{ch ch':CH}{Q:VK}
theorem Bo{o:CO}{a:J4}(g:Gh G F H ρ ch)(O:H a=ψ)(U:CoOk G F (upd H a u) ρ ch.length a o):Adv G F H ρ ch F (upd H a u) (λi=>if i=ch.length then a else ρ i) (ch++[o]):=Adv.new g (Step.made g.fh O) O (g.fh.free O) (U.mono (Same.refl _) (λi hi=>if_neg (qc5 hi)) (qn0 _) λ_ h=>h)
theorem kq{o:CO}{a:J4}(g:Gh G F H ρ ch)(U:H a=ψ)(O:CoOk G F (upd H a u) ρ ch.length a o)(k:KM G RV F H ρ ch (.ref ch.length) (ch++[o]) Q):Q (.ref a) (upd H a u):=k.sol (Bo g U O) ⟨Ξ,Ξ⟩
def finL(m:Md)(l:η CV)(ch:CH):ζ (CV×CH):=match dats l with
 |some ds=>fin m ch (.e ds)
 |none=>if l.all CV.sol then ς (.ref ch.length,ch++[.e l])else ψ
def eLs(m:Md)(fs:FM (η CV)):Fg:=λδ ch=>(fs δ ch).bind λp=>if p.1.length<=qa5 then finL m p.1 p.2 else ψ
omit x in
theorem Bp(h:GA G X es fs):GE G X (.List es pos) (eLs m fs):=PE.mono (AA h) λσ H Q h=>by
 refine(tK.args (k:=λl _ ch=>if l.length<=qa5 then finL m l ch else ψ) h).imp λvs H1 U=>?_
 have⟨Φ,δ,ch,F,ρ,cs,c,ch',en,O,hf,k⟩:=U;dsimp only at hf;rcases hf
 rename_i hz;refine⟨by rw[<- Paired.length O];exact hz,λq Y=>?_⟩;unfold finL at hf;split at hf
 .rename_i ds W;exact bT (bL en.gh hf k) en.gh.fh (aX W (RelCs.s (by rw[cr W];simp[CV.sol]) O)) Y
 .split at hf<;>cases hf
  rename_i hs;exact kq (o:=.e cs) en.gh Y ⟨vs,af,O.s hs⟩ k
def eTu(fs:FM (η CV)):Fg:=λδ ch=>(fs δ ch).bind λp=>if p.1.length<=qa5 then(match dats p.1 with
 |some ds=>ς (.g (.t ds),p.2)
 |none=>if p.1.all CV.sol then ς (.ref p.2.length,p.2++[.t p.1])else ψ)else ψ
omit x in
theorem Bq{x1}(h:GA G X es fs):GE G X (.Tuple es x1 pos) (eTu fs):=PE.mono (Az h) λσ H Q h=>by
 refine(tK.args (k:=λl _ ch=>if l.length<=qa5 then(match dats l with
  |some ds=>ς (CV.g (.t ds),ch)
  |none=>if l.all CV.sol then ς (.ref ch.length,ch++[.t l])else ψ)else ψ) h).imp λvs H1 O=>?_
 have⟨Φ,δ,ch,F,ρ,cs,c,ch',en,U,hf,k⟩:=O;dsimp only at hf;rcases hf
 rename_i hz;refine⟨by rw[<- Paired.length U];exact hz,λq Y=>?_⟩;split at hf
 .rename_i ds W;cases hf;exact KO.tup (bL (m:=.v) (t:=.f (.t ds)) en.gh rfl k) en.gh.fh (aX W (RelCs.s (by rw[cr W];simp[CV.sol]) U)) Y
 .split at hf<;>cases hf
  rename_i hs;exact kq (o:=.t cs) en.gh Y ⟨vs,af,U.s hs⟩ k
noncomputable def isK:Dt->ζ (η Key)
 |.t [.int n,.str s]=>ς [.inl n,.inr s]
 |.t [.str s,.int n]=>ς [.inr s,.inl n]
 |_=>ψ
noncomputable def fV(K:xA9):Bool:=K.all λp=>match p.2.data with
 |.seq J3 _=>(match J3.toList with
  |[.int _ _,.str _ _]|[.str _ _,.int _ _]=>ξ
  |_=>θ)
 |_=>θ
theorem lK{a:J4}{o:Obj}:∀{K:η (J4×Obj)},K.lookup a=ς o->(a,o)∈K
 |[],h=>by cases h
 |(b,u)::K,h=>by
  rw[qj5]at h;cases q:a==b with
  |true=>rw[q]at h;cases h;rw[beq_iff_eq.mp q];exact .head _
  |false=>rw[q]at h;exact .tail _ (lK h)
theorem kr{v:V}(hK:fV K=θ)(h:isK d=ς ks)(r:RepB K F H d v):∃b,v=.ref b/\F b=ς (.t (ks.map kV)):=by
 have U:∀{a:J4}{x y:V},SqT K F a [x,y]->((∃n s,x=.int n/\y=.str s)\/∃n s,x=.str s/\y=.int n)->F a=ς (.t [x,y]):=λ{a x y} h Y=>by
  rcases h with h|⟨o,J3,m,W,hc,hd,hz,r⟩
  .exact h
  .have O:=qc9.mp hK (a,o) (lK W);dsimp only at O;rw[hd.1]at O;dsimp only at O;generalize J3.toList=w at O r;obtain _|⟨Z,_|⟨r2,_|_⟩⟩:=r;rcases Y with ⟨n,s,rfl,rfl⟩|⟨n,s,rfl,rfl⟩<;>(have⟨t1,rfl⟩:=Z;have⟨t2,rfl⟩:=r2;cases O)
 unfold isK at h;split at h<;>cases h
 all_goals
  have⟨a,vs,rfl,h1,h2⟩:=r;unfold Reps at h2;have⟨v1,w1,rfl,q1,h2⟩:=h2;unfold Reps at h2;have⟨v2,w2,rfl,q2,h2⟩:=h2;unfold Reps at h2;subst h2;rwa[Rep]at q1 q2;subst q1 q2
 .exact⟨a,rfl,U h1 (.inl ⟨_,_,rfl,rfl⟩)⟩
 .exact⟨a,rfl,U h1 (.inr ⟨_,_,rfl,rfl⟩)⟩
def bW(x k:Dt):ζ (ζ Dt):=match x with
 |.dct ks l=>(cN k).map (am ks l)
 |.dcT ks l=>(isK k).map (am ks l)
 |_=>ψ
theorem ie{x k:Dt}{r:ζ Dt}(Z:fV K=θ)(fh:Same F H)(Y:RepB K F H x vx)(W:RepB K F H k vk)(h:bW x k=ς r):∃a o,vx=.ref a/\DGet H a vk o/\(∀d,r=ς d->∃v,o=ς v/\Rep K F d v)/\(r=ψ->o=ψ):=by
 cases x with
 |dct ks l=>have⟨q,U,rfl⟩:=mS h;have⟨a,J1,rfl,h1,rfl,O⟩:=Y;refine⟨a,_,rfl,.inl ⟨J1,q,h1,dw W U,rfl⟩,?_⟩;exact⟨λd e=>fQ O e,λe=>fR O e⟩
 |dcT ks l=>have⟨q,U,rfl⟩:=mS h;have⟨a,J1,rfl,h1,rfl,O⟩:=Y;have⟨b,rfl,hb⟩:=kr Z U W;refine⟨a,_,rfl,.inr ⟨J1,q,b,h1,rfl,fh _ _ hb,rfl⟩,?_⟩;exact⟨λd e=>fQ O e,λe=>fR O e⟩
 |_=>cases h
noncomputable def lkC{κ:Type}[DecidableEq κ](l:η (κ×CV))(k:κ):ζ CV:=(l.find? λp=>decide (p.1=k)).map (·.2)
theorem gy {κ:Type} [DecidableEq κ] {n:Nat} {k:κ}:∀ {l:η (κ×CV)} {J1:η (κ×V)},J1.map (·.1)=l.map (·.1)->RelSs G F ρ n (l.map (·.2)) (J1.map (·.2))→
  match lkC l k with|some c=>∃v,bA J1 k=ς v/\RelS G F ρ n c v|none=>bA J1 k=ψ
 |[],[],_,_=>rfl
 |[],p::J1,e,_=>by cases e
 |p::l,[],e,_=>by cases e
 |(k1,c)::l,(k2,v)::J1,e,r=>by
  rwa[qa3,qm4]at e;have⟨rfl,e⟩:=e;obtain _|⟨W,Y⟩:=r;have Z:=gy (k:=k) e Y;by_cases O:k2=k
  .subst O;rwa[lkC,qk7,decide_true,qb2];exact⟨v,by simp[bA],W⟩
  .have U:lkC ((k2,c)::l) k=lkC l k:=by simp[lkC,qk7,O]
   have e2:bA ((k2,v)::J1) k=bA J1 k:=by simp[bA,O]
   rw[U,e2];exact Z
def ixO(o:CO)(d:Dt):ζ CV:=match o with
 |.e l=>(asI d).bind (atI l)
 |.t l=>(asI d).bind (atI l)
 |.dK l=>(cN d).bind (lkC l)
 |.dT l=>(isK d).bind (lkC l)
 |_=>ψ
def ixD(x d:Dt):ζ Dt:=match bW x d with
 |some r=>r
 |none=>match gIx x d with
  |some (.f y)=>ς y
  |_=>ψ
def ixV(ch:CH)(x:CV)(d:Dt):ζ CV:=match x with
 |.ref i=>(ch[i]?).bind λo=>ixO o d
 |x=>(vw ch x).bind λx=>(ixD x d).map .g
def eIx(fa fb:Fg):Fg:=λδ ch=>(fa δ ch).bind λp=>(fb δ p.2).bind λq=>(vw q.2 q.1).bind λd=>(ixV q.2 p.1 d).map λc=>(c,q.2)
theorem ig{v:V}(h:asI d=ς j)(r:RepB K F H d v):v=.int j:=by cases d<;>cases h;exact r
theorem oK{n:Nat}{l:η CV}{c:CV}(r:RelSs G F ρ n l vs)(h:atI l j=ς c):∃v,atI vs j=ς v/\RelS G F ρ n c v:=by unfold atI at h ⊢;have⟨k,h1,h2⟩:=bS h;rw[RelSs.length r,h1];exact Paired.get r h2
def kIx:η CV->Fg:=λcs _ ch=>match cs with
 |[x,y]=>(vw ch y).bind λd=>(ixV ch x d).map λc=>(c,ch)
 |_=>ψ
omit x in
theorem Br(hI:fV G.K=θ){x:V}(h:tK G RV kIx σ [x,y] H Q):rIx G.K x y H Q\/Bl x y H Q:=by
 have⟨Φ,δ,ch,F,ρ,cs,c,ch',en,rs,hf,k⟩:=h;obtain _|@⟨cx,_,_,_,r1,_|@⟨cy,_,_,_,r2,_|_⟩⟩:=rs;have⟨d,hd,hf⟩:=bS hf;have⟨c',hc,e⟩:=mS hf;cases e;have rd:=aO en.gh r2 hd
 have dta:∀x z y,vw ch cx=ς x->ixD x d=ς y->CV.g y=c->RepB G.K F H x z->rIx G.K z _ H Q\/Bl z _ H Q:=λx z y _ hi hy rx=>by
  subst hy;unfold ixD at hi;split at hi
  .rename_i r hr;have⟨a,o,e,hg,hm⟩:=ie hI en.gh.fh rx rd hr;have⟨v,rfl,rv⟩:=hm.1 _ hi;exact .inr ⟨a,v,e,hg,k.dat en.gh rv⟩
  .split at hi<;>cases hi
   rename_i hg;exact .inl (r_ix F H x d _ _ Q _ en.gh.fh rx rd hg (bL (m:=.v) (t:=.f y) en.gh rfl k))
 cases cx with
 |ref i=>
  have⟨_,rfl⟩:=r1;have⟨o,ho,hc⟩:=bS hc;have O:=en.gh.ok i o ho;cases o with
  |e l=>have⟨j,Y,hc⟩:=bS hc;have⟨vs,h1,h2⟩:=O;have⟨u,W,U⟩:=oK h2 hc;exact .inl (.inl ⟨_,vs,j,u,rfl,ig Y rd,SqL.of h1,W,k.sol (.refl en.gh) U⟩)
  |t l=>have⟨j,Y,hc⟩:=bS hc;have⟨vs,h1,h2⟩:=O;have⟨u,W,U⟩:=oK h2 hc;exact .inl (.inr (.inl ⟨_,vs,j,u,rfl,ig Y rd,SqT.of h1,W,k.sol (.refl en.gh) U⟩))
  |dK l=>have⟨j,Y,hc⟩:=bS hc;have⟨nd,J1,h1,h2,h3⟩:=O;have lk:=gy (k:=j) h2 h3;rw[hc]at lk;have⟨u,W,U⟩:=lk;refine .inr ⟨_,u,rfl,?_,k.sol (.refl en.gh) U⟩;rw[dw rd Y,<- W];exact DGet.k h1
  |dT l=>have⟨j,Y,hc⟩:=bS hc;have⟨nd,J1,h1,h2,h3⟩:=O;have⟨b,rfl,hb⟩:=kr hI Y rd;have lk:=gy (k:=j) h2 h3;rw[hc]at lk;have⟨u,W,U⟩:=lk;refine .inr ⟨_,u,rfl,?_,k.sol (.refl en.gh) U⟩;rw[<- W];exact DGet.t h1 (en.gh.fh _ _ hb)
  |ins c l=>cases hc
 |g x0=>have hc:(vw ch (.g x0)).bind (λx=>(ixD x d).map .g)=ς c:=hc;have⟨x,Z,hc⟩:=bS hc;have⟨y,hy,e⟩:=mS hc;exact dta x _ y Z hy e (aO en.gh r1 Z)
 |own b t=>have⟨x,Z,hc⟩:=bS hc;have⟨y,hy,e⟩:=mS hc;exact dta x _ y Z hy e (aO en.gh r1 Z)
 |fn _ _=>cases hc
theorem DG{k:Nat}(W:X.K=G.K)(Y:fV G.K=θ)(U:Room k X.A)(O:GE G X a fa)(hb:GE G X b fb)(hs:j0 b):GE G X (.Subscript a b pos) (eIx fa fb):=PE.mono (Du (IxR.or AE (xa (lA U))) O hb hs) λσ H Q h=>(tK.two (k:=kIx) h).imp λ_ _ h=>h.imp λ_ _ h=>by rw[W];exact Br Y h
def jx(G:Gx)(c:Nat):Prop:=∀p,G.ct[c]?=ς p->∃C,ClsAt G.K p.1 C/\Cls G.K C/\p.2.Nodup/\∀f∈p.2,NoAttr G.K C f
noncomputable def eAt(c f:Nat)(fa:Fg):Fg:=λδ ch=>(fa δ ch).bind λp=>match p.1 with
 |.ref i=>match p.2[i]? with
  |some (.ins O l)=>if O=c then(l[f]?).map λx=>(x,p.2)else ψ
  |_=>ψ
 |_=>ψ
theorem dP{f:Str}:∀{fs:η (Str×V)}{j:Nat}{v:V},(fs.map (·.1)).Nodup->(fs.map (·.1))[j]?=ς f->(fs.map (·.2))[j]?=ς v->fs.lookup f=ς v
 |[],j,v,_,h,_=>by simp at h
 |(g,x)::fs,0,v,_,h,h'=>by simp at h h';subst h h';simp[qh3]
 |(g,x)::fs,j+1,v,O,h,h'=>by
  rwa[qa3,qc8]at O;rwa[qa3,qd1]at h h'
  have U:(f==g)=ξ:=by
   have:f≠g:=λe=>O.1 (by rw[<- e];exact qa4 h)
   simpa using this
  rwa[qh3,U];exact dP O.2 h h'
theorem lL{ns:η Str}{l:η CV}{fs:η (Str×V)}{j:Nat}{x:CV}(h:fs.map (·.1)=ns.take l.length)(O:l[j]?=ς x){f:Str}(hf:ns[j]?=ς f):(fs.map (·.1))[j]?=ς f:=by rw[h,qq9 (aj O)];exact hf
omit x in
theorem DH{c f:Nat}{pn:Str×η Str}{fn:Str}(hK:X.K=G.K)(hc:jx G c)(hp:G.ct[c]?=ς pn)(hn:pn.2[f]?=ς fn)(h:GE G X o fa)(hb:qh8 o fn X.env (eval o X.env)=eval o X.env):GE G X (.Attribute o fn pos) (eAt c f fa):=PE.mono (Ax h hb) λσ H Q Z=>by
 have⟨Φ,δ,ch,F,ρ,c0,ch',en,O,kk⟩:=Z;have⟨⟨c1,ch1⟩,h1,hg'⟩:=bS O;clear O;have O:=hg';clear hg';cases c1 with
 |ref i=>
  dsimp only at O;rcases O
  rename_i c' l ho;rcases O
  rename_i Y;subst Y;have⟨x,hx,e⟩:=mS O;cases e;refine⟨Φ,δ,ch,F,ρ,_,_,en,h1,λv F1 H1 ρ1 a1 r1=>?_⟩;have⟨p',C',dx,fs,U,h0,ha,h2,h3⟩:=a1.gh.ok i _ ho;rw[hp]at U;cases U
  have⟨C,hC,W,nd,hna⟩:=hc pn hp;have:=hC.inj h0;subst this;have⟨u,hu,ru⟩:=Paired.get h3 hx;exact⟨_,C,dx,fs,u,r1.1.2,ha,by rw[hK];exact W,by rw[hK];exact hna _ (qa4 hn),dP (by rw[h2];exact nd.sublist (qo7 _ _)) (lL h2 hx hn) hu,kk.sol a1 ru⟩
 |_=>cases O
abbrev Fd:=η CV->CH->ζ (CV×CH)
def RS:RL CV V:=λG _ F _ ρ n c v=>RelS G F ρ n c v
def spZ(G:Gx)(n:Nat)(f:Fd):Sp:=λvs H Q _=>∃F ρ cs ch c ch',Gh G F H ρ ch/\cs.length=n/\(∀t,CV.own θ t∉cs)/\RelCs G F H ρ ch.length cs vs/\f cs ch=ς (c,ch')/\KM G RS F H ρ ch c ch' Q
noncomputable def CV.old:CV->Bool
 |.own θ _=>ξ
 |_=>θ
theorem Bs{cs:η CV}(h:cs.all CV.old=θ)(t:T):CV.own θ t∉cs:=λz=>by have:=qc9.mp h _ z;cases this
def kCa(n:Nat)(g:Fd):η CV->Fg:=λcs _ ch=>if cs.length=n/\cs.all CV.old=θ then g cs ch else ψ
omit x in
theorem ij{n:Nat}{g:Fd}(h:tK G RV (kCa n g) σ vs H Q):spZ G n g vs H Q E0:=by
 have⟨Φ,δ,ch,F,ρ,cs,c,ch',en,U,hf,k⟩:=h;unfold kCa at hf;rcases hf
 rename_i O;exact⟨F,ρ,cs,ch,c,ch',en.gh,O.1,Bs O.2,U,hf,λb F' H' ρ' a r=>k.sol a r⟩
def eCa(n:Nat)(g:Fd)(fs:FM (η CV)):Fg:=λδ ch=>(fs δ ch).bind λp=>kCa n g p.1 δ p.2
section
variable{sc:J9}{x:Str}{k n:Nat}{ps:η Str}{g:Fd}
theorem xb(h:aI sc x=θ)(F:OkF X.prog X.w X.K X.mg X.base x k ps (spZ G n g))(Z:Room k X.A)(W:GA G X (e::es) fs)(U:aY X sc)(Y:qb3 (e::es) X.env=(ξ,eval e X.env)::qb3 es X.env)(O:(qh6 cpos (qb3 es X.env)).any (·.1)=ξ):GE G X (.Call (.Name x p) (e::es) [] cpos) (eCa n g fs):=PE.mono (ql h F Z W U Y O) λσ H Q h=>(tK.args (k:=kCa n g) h).imp λvs H1 h=>by rw[qf6];exact ij h
theorem kt{Q:η V->Hp->Prop}(h:tM G RA aNl σ H Q):mQ σ H Q:=h.ret λ_ _ _=>.nil
theorem tO(h:aI sc x=θ)(F:OkF X.prog X.w X.K X.mg X.base x k ps (spZ G n g))(U:Room k X.A)(O:aY X sc):GE G X (.Call (.Name x p) [] [] cpos) (eCa n g aNl):=PE.mono (m3 h F U O) λσ H Q h=>kt ((tK.args (k:=kCa n g) h).imp λvs H1 h=>by rw[qf6];exact ij h)
structure OkM(P:qe5)(w:J5)(K:xA9)(mg:Str->Option Value)(base:Heap)(c m:Str)(k:Nat)(ps:List Str)(sp:Sp):Prop where
 ex:∃C f fd,ClsAt K c C/\Cls K C/\Meth K C m f/\Binds K fd ps []/\FnOk P w K mg base CX0 k f fd ps sp
structure OkI(P:qe5)(w:J5)(K:xA9)(mg:Str->Option Value)(base:Heap)(c:Str)(k:Nat)(ps:List Str)(sp:Sp):Prop where
 ex:∃C f fd,ClsAt K c C/\mg c=ς (.ref C)/\Mk K C f/\Binds K fd ps []/\FnOk P w K mg base CX0 k f fd ps sp
def eMe(c n:Nat)(g:Fd)(fo:Fg)(fs:FM (η CV)):Fg:=λδ ch=>(fo δ ch).bind λp=>match p.1 with
 |.ref i=>match p.2[i]? with
  |some (.ins O _)=>if O=c then(fs δ p.2).bind λq=>kCa n g (.ref i::q.1) δ q.2 else ψ
  |_=>ψ
 |_=>ψ
theorem gf{m:Str}:∀{fs:η (Str×V)},m∉fs.map (·.1)->fs.lookup m=ψ
 |[],_=>rfl
 |(g,x)::fs,h=>by
  rwa[qa3,qb9,not_or]at h;have:(m==g)=ξ:=‹h.1›
  rwa[qh3,this];exact gf h.2
omit x in
theorem tQ{c n:Nat}{m:Str}{pn:Str×η Str}(hp:G.ct[c]?=ς pn)(h1:ClsAt G.K pn.1 C)(hm:m∉pn.2)(has:∀ σ H Q,tM G RA fs σ H Q->as σ H Q)(σ:St)(H:Hp)(Q:VK)(h:tM G RV (eMe c n g fa fs) σ H Q):rZ C m (spZ G n g) [] E0 (tM G RV fa) as σ H Q:=by
 have⟨Φ,δ,ch,F,ρ,c0,ch',en,O,kk⟩:=h;have⟨⟨c1,ch1⟩,h2,hg'⟩:=bS O;clear O;have O:=hg';clear hg';cases c1 with
 |ref i=>
  dsimp only at O;rcases O
  rename_i c' l ho;rcases O
  rename_i Y;subst Y;have⟨q,hq,Z⟩:=bS O;refine⟨Φ,δ,ch,F,ρ,_,_,en,h2,λv F1 H1 ρ1 W r1=>?_⟩;have⟨p',C',dx,gs,U,h0,ha,h3,h4⟩:=W.gh.ok i _ ho;rw[hp]at U;cases U
  have:=h1.inj h0;subst this;refine⟨_,dx,gs,r1.1.2,ha,gf (by rw[h3];exact λz=>hm (List.mem_of_mem_take z)),has _ _ _ ⟨Φ,δ,ch1,F1,ρ1,q.1,q.2,en.adv W,hq,λvs F2 H2 ρ2 a2 r2=>?_⟩⟩;show spZ G n g (v::(vs++[])) H2 Q E0;rw[qf6];exact ij (σ:=σ) ⟨Φ,δ,q.2,F2,ρ2,.ref i::q.1,c0,ch',(en.adv W).adv a2,.cons (r1.1.adv a2) r2,Z,(kk.adv W).adv a2⟩
 |_=>cases O
theorem xc{c:Nat}{m:Str}{pn:Str×η Str}(hK:X.K=G.K)(hp:G.ct[c]?=ς pn)(hm:m∉pn.2)(F:OkM X.prog X.w X.K X.mg X.base pn.1 m k ps (spZ G n g))(hr:Room k X.A)(ho:GE G X o fa)(U:GA G X (e::es) fs)(Z:qb3 (e::es) X.env=(ξ,eval e X.env)::qb3 es X.env)(O:(qh6 cpos (qb3 es X.env)).any (·.1)=ξ)
 (W:eval (.Call (.Attribute o m apos) (e::es) [] cpos) X.env=(do
 let ov <- eval o X.env
 qw6 apos.atName
 let (f,first) <- qo9 [ov] (qv0 ov m pl)
 zc7 cpos f first (qh6 cpos (qb3 (e::es) X.env)) (qo6 cpos (qi3 [] X.env)))):GE G X (.Call (.Attribute o m apos) (e::es) [] cpos) (eMe c n g fa fs):=by
 have⟨C,f,fd,h1,h2,h3,h4,Y⟩:=F.ex;rw[hK]at h1;exact PE.mono (wy ho h2 h3 Y hr h4 .nil hZ U Z O W) (tQ hp h1 hm λ_ _ _ q=>q)
theorem tR{c:Nat}{m:Str}{pn:Str×η Str}(hK:X.K=G.K)(hp:G.ct[c]?=ς pn)(Z:m∉pn.2)(F:OkM X.prog X.w X.K X.mg X.base pn.1 m k ps (spZ G n g))(hr:Room k X.A)(Y:GE G X o fa) 
 (O:eval (.Call (.Attribute o m apos) [] [] cpos) X.env=(do
 let ov <- eval o X.env
 qw6 apos.atName
 let (f,first) <- qo9 [ov] (qv0 ov m pl)
 zc7 cpos f first (qh6 cpos (qb3 [] X.env)) (qo6 cpos (qi3 [] X.env)))):GE G X (.Call (.Attribute o m apos) [] [] cpos) (eMe c n g fa aNl):=by
 have⟨C,f,fd,h1,h2,W,h4,U⟩:=F.ex;rw[hK]at h1;exact PE.mono (r8 Y h2 W U hr h4 .nil hZ O) (tQ hp h1 Z λ_ _ _ q=>kt q)
def eMk(c n:Nat)(g:Fd)(fs:FM (η CV)):Fg:=λδ ch=>(fs δ ch).bind λp=>(kCa n g (.ref p.2.length::p.1) δ (p.2++[.ins c []])).bind λq=>match q.1 with
 |.g .non=>if p.2.length<q.2.length then ς (.ref p.2.length,q.2)else ψ
 |_=>ψ
omit x in
theorem tS{c n:Nat}{pn:Str×η Str}(hp:G.ct[c]?=ς pn)(h1:ClsAt G.K pn.1 C)(has:∀ σ H Q,tM G RA fs σ H Q->as σ H Q)(σ:St)(H:Hp)(Q:VK)(h:tM G RV (eMk c n g fs) σ H Q):r0 C (spZ G n g) [] E0 as σ H Q:=by
 have⟨Φ,δ,ch,F,ρ,c0,ch',en,hg,kk⟩:=h;have⟨p,h2,Y⟩:=bS hg;have⟨⟨q,ch2⟩,h3,O⟩:=bS Y;dsimp only at O;rcases O
 rcases O
 rename_i Z;cases O;refine has _ _ _ ⟨Φ,δ,ch,F,ρ,p.1,p.2,en,h2,λvs F1 H1 ρ1 U r1 x dx hx W hne=>?_⟩;rw[qf6];have st:Step F1 H1 F1 (upd (upd H1 dx (.own x)) x (.ins C dx [])):=(Step.made U.gh.fh W).trans (Step.made (U.gh.fh.trans (Same.upd W)) (by rw[ah (qj7 hne)];exact hx))
 have a2:Adv G F1 H1 ρ1 p.2 F1 (upd (upd H1 dx (.own x)) x (.ins C dx [])) (λi=>if i=p.2.length then x else ρ1 i) (p.2++[.ins c []]):=Adv.new U.gh st hx (U.gh.fh.free hx) ⟨pn,C,dx,[],hp,h1,af,rfl,.nil⟩
 have hz:(λi=>if i=p.2.length then x else ρ1 i) p.2.length=x:=if_pos rfl;refine ij (σ:=σ) (G:=G) ⟨Φ,δ,p.2++[.ins c []],F1,_,.ref p.2.length::p.1,.g .non,ch',(en.adv U).adv a2,.cons ⟨Ξ,Ξ⟩ (RelCs.adv a2 r1),h3,λv F3 H3 ρ3 a3 r3=>⟨?_,?_⟩⟩
 .exact r3.1
 .have hl:p.2.length<(p.2++[CO.ins c []]).length:=by simp
  exact kk.sol ((U.trans a2).trans a3) ⟨Z,by rw[a3.ext _ hl];simp⟩
theorem xf{c:Nat}{pn:Str×η Str}(hK:X.K=G.K)(hp:G.ct[c]?=ς pn)(h:aI sc pn.1=θ)(F:OkI X.prog X.w X.K X.mg X.base pn.1 k ps (spZ G n g))(hr:Room (k+1) X.A)(W:GA G X (e::es) fs)(U:aY X sc)(Z:qb3 (e::es) X.env=(ξ,eval e X.env)::qb3 es X.env)(O:(qh6 cpos (qb3 es X.env)).any (·.1)=ξ):GE G X (.Call (.Name pn.1 p) (e::es) [] cpos) (eMk c n g fs):=by have⟨C,f,fd,h1,h2,h3,h4,Y⟩:=F.ex;rw[hK]at h1;exact PE.mono (wz h3 Y hr (glD h U) h2 h4 .nil hZ W (cm h) Z O) (tS hp h1 λ_ _ _ q=>q)
theorem tT{c:Nat}{pn:Str×η Str}(Y:X.K=G.K)(hp:G.ct[c]?=ς pn)(h:aI sc pn.1=θ)(F:OkI X.prog X.w X.K X.mg X.base pn.1 k ps (spZ G n g))(Z:Room (k+1) X.A)(O:aY X sc):GE G X (.Call (.Name pn.1 p) [] [] cpos) (eMk c n g aNl):=by have⟨C,f,fd,h1,h2,W,h4,U⟩:=F.ex;rw[Y]at h1;exact PE.mono (r9 W U Z (glD h O) h2 h4 .nil hZ (cm h)) (tS hp h1 λ_ _ _ q=>kt q)
end
end
noncomputable def CV.kp:CV->Bool
 |.own ξ _=>ξ
 |_=>θ
section
variable{G:Gx}{Φ:Fr0}{F H F' H' F1 H1:Hp}{ρ ρ' ρ1:Nat->J4}{n:Nat}{δ:Sl}{σ:St}{ch ch' ch1 ch2:CH}{c:CV}{v:V}{Q:VK}{d:Dt}{t t':T}{i:Nat}{a:J4}
theorem RelW.there(h:RelW G F H ρ n t v):∃a o,v=.ref a/\H a=ς o/\NT o:=by
 have⟨x,rfl,O,U,_⟩:=h;cases t<;>try(cases O;done)
 all_goals (have⟨b,vs,e,rfl,h1,_⟩:=U;exact⟨_,_,rfl,h1,by intro _ z;cases z⟩)
theorem Ge.put(Y:Ge G Φ δ ch σ F H ρ)(ad:Adv G F H ρ ch F' H' ρ' ch')(r:RelC G F' H' ρ' ch'.length c v)(hn:y9 H c v)(hk:c.kp=θ)(i:Nat):Ge G Φ (δ.set i (ς c)) ch' (σ.set i (ς v)) F' H' ρ':=by
 have en:=Y.adv ad;have hl:=en.len
 have U:∀(j:Nat)(b:Bool)(u:T)(x:J4),δ[j]?=ς (ς (.own b u))->σ[j]?=ς (ς (.ref x))->∃o,H x=ς o:=λj b u x h1 h2=>by
  have⟨w,e1,e2⟩:=Y.has j _ h1;have⟨y,o,rfl,Z,_⟩:=RelW.there e2;rw[h2]at e1;cases e1
  exact⟨o,Z⟩
 refine⟨en.ad,by simp[hl],λj c' h=>?_,λj u x h h'=>?_,λj k u w b x W h1 h2 h3 h4=>?_⟩
 .rcases aD h with ⟨rfl,e⟩|⟨O,h⟩
  .cases e;refine⟨v,?_,r⟩;have hi:i<δ.length:=by have:=aj h;simpa using this
   rw[qe3 Θ]
  .have⟨w,e1,e2⟩:=en.has j c' h;exact⟨w,by rw[gN O];exact e1,e2⟩
 .rcases aD h with ⟨rfl,e⟩|⟨O,h⟩
  .cases e;rcases aD h' with ⟨_,e'⟩|⟨z,_⟩
   .cases e';exact Y.ad.hs x (hn u rfl x rfl)
   .exact absurd rfl z
  .rw[gN O]at h';exact en.nw j u x h h'
 .rcases aD h1 with ⟨rfl,e⟩|⟨O,h1'⟩
  .cases e;rcases aD h2 with ⟨z,_⟩|⟨_,h2⟩
   .exact W z
   .rw[gN W]at h4;rcases aD h3 with ⟨_,e'⟩|⟨z,_⟩
    .cases e';have⟨o,Z⟩:=U k b w x h2 h4;rw[hn u rfl x rfl]at Z;cases Z
    .exact absurd rfl z
  .rw[gN O]at h3;rcases aD h2 with ⟨rfl,e⟩|⟨hne2,h2⟩
   .cases e;rcases aD h4 with ⟨_,e'⟩|⟨z,_⟩
    .cases e';cases b with
     |false=>cases hk
     |true=>have⟨o,Z⟩:=U j θ u x h1' h3;rw[hn w rfl x rfl]at Z;cases Z
    .exact absurd rfl z
   .rw[gN hne2]at h4;exact en.dis j k u w b x W h1' h2 h3 h4
theorem Ge.poke(en:Ge G Φ δ ch σ F H ρ){o:HO}(h:δ[i]?=ς (ς (.own θ t)))(Y:σ[i]?=ς (ς (.ref a)))(ht:t'.own=θ)(ho:Own G.K F (upd H a o) t' (.ref a) (· = a)):Ge G Φ (δ.set i (ς (.own θ t'))) ch σ F (upd H a o) ρ:=by
 have⟨w,W,e2⟩:=en.has i _ h;rw[Y]at W;cases W
 have⟨a',e,_,_,hF,hp⟩:=id e2;cases e;have hΦ:=en.nw i t a h Y;have adv:Adv G F H ρ ch F (upd H a o) ρ ch->True:=λ_=>trivial
 have fh:Same F (upd H a o):=λb x e=>by rw[ah λq=>by rw[q,hF]at e;cases e];exact en.gh.fh b x e
 have gh:Gh G F (upd H a o) ρ ch:=⟨fh,en.gh.inj,en.gh.out,λj x hx=>(en.gh.ok j x hx).mono (Same.refl _) (λ_ _=>rfl) (nL _) λy hy=>by rw[ah (hp j (aj hx))];exact hy⟩;refine⟨⟨gh,en.ad.len,en.ad.ext,en.ad.fr,λb x h1 h2=>?_,en.ad.old,en.ad.nw,λb h=>?_⟩,by simp[en.len],λj c h1=>?_,λj u x h1 h2=>?_,λj k u w b x O h1 h2 h3 h4=>?_⟩
 .rw[ah λq=>by rw[q,hΦ]at h1;cases h1];exact en.ad.prot b x h1 h2
 .by_cases q:b=a
  .subst q;rw[af]at h;cases h
  .rw[ah q]at h;exact en.ad.hs b h
 .rcases aD h1 with ⟨rfl,e⟩|⟨U,h1⟩
  .cases e;exact⟨.ref a,Y,a,rfl,ht,ho,hF,hp⟩
  .have⟨w,W,e3⟩:=en.has j c h1;refine⟨w,W,?_⟩;cases c with
   |own b u=>
    have⟨x,e,hu,hw,r1,r2⟩:=id e3;subst e;have Z:x≠a:=λz=>by subst z;exact en.dis i j t u b x U h h1 Y W
    exact⟨x,rfl,hu,Own.step (Same.refl _) (λy o e h=>by cases e;rw[ah Z];exact h) hw,r1,r2⟩
   |_=>exact e3
 .rcases aD h1 with ⟨rfl,e⟩|⟨U,h1⟩
  .rw[Y]at h2;cases h2;exact hΦ
  .exact en.nw j u x h1 h2
 .rcases aD h1 with ⟨rfl,e⟩|⟨U,h1⟩
  .rcases aD h2 with ⟨z,_⟩|⟨_,h2⟩
   .exact O z
   .exact en.dis i k t w b x O h h2 h3 h4
  .rcases aD h2 with ⟨rfl,e⟩|⟨_,h2⟩
   .exact en.dis j i u t θ x O h1 h h3 h4
   .exact en.dis j k u w b x O h1 h2 h3 h4
theorem Ge.frz(en:Ge G Φ δ ch σ F H ρ)(h:δ[i]?=ς (ς (.own θ t)))(hd:t.d=ς d):∃F',Ge G Φ (δ.set i (ς (.g d))) ch σ F' H ρ:=by
 have⟨w,e1,e2⟩:=en.has i _ h;have⟨a,rfl,ht,ho,hF,hp⟩:=id e2;have hΦ:=en.nw i t a h e1;have W:Same F (kh F H (· = a)):=ki λb z=>by cases z;exact hF
 have O:∀b,b≠a->kh F H (· = a) b=F b:=λb hb=>eF hb
 have gh:Gh G (kh F H (· = a)) H ρ ch:=⟨oB en.gh.fh,en.gh.inj,λj x Y hl=>by rw[O _ (hp j (aj Y))];exact en.gh.out j x Y hl,λj x Y=>(en.gh.ok j x Y).mono W (λ_ _=>rfl) (nL _) λ_ h=>h⟩;refine⟨_,⟨gh,en.ad.len,en.ad.ext,en.ad.fr,en.ad.prot,en.ad.old.trans W,λb o z=>?_,en.ad.hs⟩,by simp[en.len],λj c h1=>?_,λj u x h1 h2=>?_,λj k u w b x Z h1 h2 h3 h4=>?_⟩
 .by_cases hb:b=a
  .subst hb;exact .inr (.inl hΦ)
  .rw[O b hb]at z;exact en.ad.nw b o z
 .rcases aD h1 with ⟨rfl,e⟩|⟨U,h1⟩
  .cases e;exact⟨_,e1,Own.freeze (λb z=>by cases z;exact hF) ho hd⟩
  .have⟨w,q1,q2⟩:=en.has j c h1;refine⟨w,q1,?_⟩;cases c with
   |own b u=>
    have⟨x,e,hu,hw,r1,r2⟩:=id q2;subst e;have hxa:x≠a:=λz=>by subst z;exact en.dis i j t u b x U h h1 e1 q1
    exact⟨x,rfl,hu,Own.step W (λ_ _ _ h=>h) hw,by rw[O x hxa];exact r1,r2⟩
   |g d=>exact Rep.same W q2
   |ref k=>exact q2
   |fn x F0=>exact⟨q2.1,q2.2.trans W⟩
 .rcases aD h1 with ⟨rfl,e⟩|⟨U,h1⟩
  .cases e
  .exact en.nw j u x h1 h2
 .rcases aD h1 with ⟨rfl,e⟩|⟨U,h1⟩
  .cases e
  .rcases aD h2 with ⟨rfl,e⟩|⟨_,h2⟩
   .cases e
   .exact en.dis j k u w b x Z h1 h2 h3 h4
end
inductive Og where
 |nx (δ:Sl) (ch:CH)|rt (c:CV) (ch:CH)|bk (δ:Sl) (ch:CH)|ct (δ:Sl) (ch:CH)
def PostZ(G:Gx)(Φ:Fr0)(D:Ends):Og->Prop
 |.nx δ ch=>∀ σ F H ρ,Ge G Φ δ ch σ F H ρ->D.nx σ H
 |.bk δ ch=>∀ σ F H ρ,Ge G Φ δ ch σ F H ρ->D.bk σ H
 |.ct δ ch=>∀ σ F H ρ,Ge G Φ δ ch σ F H ρ->D.ct σ H
 |.rt c ch=>∀v F H ρ,Adv G Φ.F Φ.H Φ.ρ Φ.ch F H ρ ch->RelS G F ρ ch.length c v->D.rt v H
abbrev Fs:=Sl->CH->ζ Og
def tZ(G:Gx)(g:Fs):TS:=λD σ H=>∃ Φ δ ch F ρ o,Ge G Φ δ ch σ F H ρ/\g δ ch=ς o/\PostZ G Φ D o
def GS1(G:Gx)(X:Cx)(st:J6)(g:Fs):Prop:=PS X st (tZ G g)
def GS(G:Gx)(X:Cx)(ss:η J6)(g:Fs):Prop:=PSs X ss (tZ G g)
variable{sc:J9}{N:η Str}
section
variable{G:Gx}{X:Cx}{st:J6}{rest a b body:η J6}{g g1 g2:Fs}{e c o tg iter:J8}{es:η J8}{pos pos' apos cpos:Pos}{f fa fe fk:Fg}{tc:FM Bool}{i:Nat}
noncomputable def dQ:Fs:=λδ ch=>ς (.nx δ ch)
noncomputable def aL(g1 g2:Fs):Fs:=λδ ch=>(g1 δ ch).bind λo=>match o with
 |.nx δ' ch'=>g2 δ' ch'
 |o=>ς o
theorem Bt:GS G X [] dQ:=PSs.mono wf λD σ H O=>by have⟨Φ,δ,ch,F,ρ,o,en,U,k⟩:=O;cases U;exact k σ F H ρ en
theorem xg(h1:GS1 G X st g1)(h2:GS G X rest g2):GS G X (st::rest) (aL g1 g2):=PSs.mono (rK h1 h2) λD σ H U=>by
 have⟨Φ,δ,ch,F,ρ,o,en,Z,k⟩:=U;have⟨Y,h1,O⟩:=bS Z;refine⟨Φ,δ,ch,F,ρ,Y,en,h1,?_⟩;cases Y with
 |nx δ' ch'=>exact λσ' F' H' ρ' W=>⟨Φ,δ',ch',F',ρ',o,W,O,k⟩
 |bk _ _=>cases O;exact k
 |ct _ _=>cases O;exact k
 |rt _ _=>cases O;exact k
theorem Fi:GS1 G X (.Pass pos) dQ:=PS.mono wg λD σ H O=>by have⟨Φ,δ,ch,F,ρ,o,en,U,k⟩:=O;cases U;exact k σ F H ρ en
def sBk:Fs:=λδ ch=>ς (.bk δ ch)
theorem tU:GS1 G X (.Break pos) sBk:=PS.mono rL λD σ H O=>by have⟨Φ,δ,ch,F,ρ,o,en,U,k⟩:=O;cases U;exact k σ F H ρ en
theorem gs_doc{y j}:GS1 G X (.Expr (.Constant (.str y) j pos) pos') dQ:=PS.mono z6 λD σ H O=>by have⟨Φ,δ,ch,F,ρ,o,en,U,k⟩:=O;cases U;exact k σ F H ρ en
def sFz(i:Nat)(g:Fs):Fs:=λδ ch=>match δ[i]? with
 |some (ς (.own θ t))=>t.d.bind λd=>g (δ.set i (ς (.g d))) ch
 |_=>ψ
omit x in
theorem Bu(h:GS G X rest g):GS G X rest (sFz i g):=PSs.mono h λD σ H W=>by
 have⟨Φ,δ,ch,F,ρ,o,en,O,k⟩:=W;unfold sFz at O;rcases O
 rename_i t Z;have⟨d,hd,U⟩:=bS O;have⟨F',Y⟩:=en.frz Z hd;exact⟨Φ,_,ch,F',ρ,o,Y,U,k⟩
noncomputable def sDr(f:Fg):Fs:=λδ ch=>(f δ ch).map λp=>.nx δ p.2
theorem xh(h:GE G X e f)(hs:qi0 e ψ pos.line X.env=pure ξ):GS1 G X (.Expr e pos) (sDr f):=PS.mono (cg h hs) λD σ H O=>by have⟨Φ,δ,ch,F,ρ,o,en,U,k⟩:=O;have⟨p,h1,e⟩:=mS U;cases e;exact⟨Φ,δ,ch,F,ρ,p.1,p.2,en,h1,λv F' H' ρ' a r=>k σ F' H' ρ' (en.adv a)⟩
def sRt(f:Fg):Fs:=λδ ch=>(f δ ch).bind λp=>if p.1.sol then ς (.rt p.1 p.2)else ψ
omit x in
theorem Bv(h:GE G X e f):GS1 G X (.Return (ς e) pos) (sRt f):=PS.mono (z7 h) λD σ H U=>by
 have⟨Φ,δ,ch,F,ρ,o,en,W,k⟩:=U;have⟨p,h1,O⟩:=bS W;split at O<;>cases O
 rename_i hs;exact⟨Φ,δ,ch,F,ρ,p.1,p.2,en,h1,λv F' H' ρ' a r=>k v F' H' ρ' (en.ad.trans a) (r.1.s hs)⟩
noncomputable def sRn:Fs:=λ_ ch=>ς (.rt (.g .non) ch)
theorem xi:GS1 G X (.Return ψ pos) sRn:=PS.mono wj λD σ H O=>by have⟨Φ,δ,ch,F,ρ,o,en,U,k⟩:=O;cases U;exact k .non F H ρ en.ad (by show Rep G.K F .non .non;rwa[Rep])
noncomputable def sIf(c:FM Bool)(g1 g2:Fs):Fs:=λδ ch=>(c δ ch).bind λp=>if p.1 then g1 δ p.2 else g2 δ p.2
theorem DI(hc:GT G X c tc)(h1:GS G X a g1)(h2:GS G X b g2):GS1 G X (.If c a b pos) (sIf tc g1 g2):=PS.mono (Dc hc h1 h2) λD σ H U=>by
 have⟨Φ,δ,ch,F,ρ,o,en,W,k⟩:=U;have⟨p,h1,O⟩:=bS W;refine⟨Φ,δ,ch,F,ρ,p.1,p.2,en,h1,λb F' H' ρ' a r=>?_⟩;cases r;cases q:p.1 with
 |true=>rw[q]at O;exact⟨Φ,δ,p.2,F',ρ',o,en.adv a,O,k⟩
 |false=>rw[q]at O;exact⟨Φ,δ,p.2,F',ρ',o,en.adv a,O,k⟩
def i7(i:Nat)(f:Fg):Fs:=λδ ch=>(f δ ch).bind λp=>if p.1.kp then ς (.nx (δ.set i (ς p.1)) p.2)else ψ
omit x in
theorem tV{x:Str}(h:bQ sc N i x=θ)(hl:iX sc x=θ)(nd:N.Nodup)(Y:GE G X e f)(W:aY X sc)(e2:X.N=N)(hf:X.fn x=θ\/X.env.scope.names.lookup x=ς .local)
 (hs:qi0 e (ς (.Name x pos')) pos.line X.env=pure ξ):GS1 G X (.Assign [.Name x pos'] e pos) (i7 i f):=PS.mono (wP h hl nd Y W e2 hf hs) λD σ H U=>by
 have⟨Φ,δ,ch,F,ρ,o,en,hg,k⟩:=U;have⟨p,h1,O⟩:=bS hg;split at O<;>cases O
 rename_i Z;exact⟨Φ,δ,ch,F,ρ,p.1,p.2,en,h1,λv F' H' ρ' a r=>k _ F' H' ρ' (en.put a r.1 r.2 Z i)⟩
end
section
variable{prog:qe5}{w:J5}{A:ql0}{E:Value->qa8->Prop}{s:qa8}{I t:J4}{j:Nat}{vs:Array Value}
theorem nj{y:Value}(hI:s.heap.IsTupleIter I t j)(hv:s.heap.IsTuple t vs)(hy:vs[j]?=ς y)
 (q:∀h',h'.IsTupleIter I t (j+1)->qg5 I s.heap h'->Q y {s with heap:=h'}):wpAny (model prog w) A (ql9 (.ref I)) Q E s:=by
 have⟨oi,U,Y,O⟩:=id hI;have⟨ot,Z,_,nt,W⟩:=hv;unfold ql9;refine wB (qj8 (name:=qd0 "__next__") hI.typeIs qk8 (qj4 qk8 hI.typeIs qv2 ?_ (qu6 _)));show wpAny _ _ (field (.ref I) 0 >>= _) _ _ s;refine wB (qj3 U O (x:=.ref t) rfl ?_);show wpAny _ _ (if(qc3 t==qg8)=θ then _ else _) _ _ s;rw[if_neg (show ¬ (qc3 t==qg8)=θ by exact qb6)];show wpAny _ _ (field (.ref I) 1 >>= _) _ _ s;refine wB (qj3 U O (x:=.int j 0) rfl ?_);show wpAny _ _ (seqItems? (.ref t) >>= _) _ _ s;refine wB (qx3 Z W ?_);rwa[qk3,hy];refine qk0 (zd2 U O Ξ (qa6 ⟨y,rfl,qa6 (q _ ?_ (qq3 ..))⟩));exact⟨_,qf7 _ U (Obj.isFreed_of_fields (Obj.data_mapFields O _)),(Obj.cls_mapFields ..).trans Y,by rw[Obj.data_mapFields O];simp[qv8]⟩
theorem qv(hh:A.handled=ψ)(Z:s.heap.IsTupleIter I t j)(hv:s.heap.IsTuple t vs)(hy:vs[j]?=ψ)
 (q:∀h' e,Heap.ExtBut I s.heap h'->(∃o,h'.get? e=ς o/\o.cls=.type "StopIteration")->E (.ref e) {s with heap:=h'}):wpAny (model prog w) A (ql9 (.ref I)) Q E s:=by
 have⟨oi,U,hci,O⟩:=id Z;have⟨ot,Y,_,nt,W⟩:=hv;unfold ql9;refine wB (qj8 (name:=qd0 "__next__") Z.typeIs qk8 (qj4 qk8 Z.typeIs qv2 ?_ (qu6 _)));show wpAny _ _ (field (.ref I) 0 >>= _) _ _ s;refine wB (qj3 U O (x:=.ref t) rfl ?_);show wpAny _ _ (if(qc3 t==qg8)=θ then _ else _) _ _ s;rw[if_neg (show ¬ (qc3 t==qg8)=θ by exact qb6)];show wpAny _ _ (field (.ref I) 1 >>= _) _ _ s;refine wB (qj3 U O (x:=.int j 0) rfl ?_);show wpAny _ _ (seqItems? (.ref t) >>= _) _ _ s;refine wB (qx3 Y W ?_);rwa[qk3,hy];refine qk0 (wpAny_rule (qk0 (zd2 U O Ξ ?_)));show wpAny _ _ (newExc (.type "StopIteration") [] >>= _) _ _ _;refine wB ?_;rwa[newExc,newTuple];refine wB (qf3 ?_ (by first|size_fits|decide));refine qk0 (m:=qx4 _ _) (wpAny_of_eq (a:=qg8) (by first|rfl|(rwa[qx4]<;>rfl)) ?_);refine qf3 ?_ (by first|size_fits|decide);rwa[raiseNew];refine wB (wpAny_handled ?_)
 first|rw[hh]|rw[show A.in1.handled=ψ by exact hh]
 refine wB (qa6 (wpAny_throw ?_));exact q _ _ (((qq3 ..).extBut.push _).push _) ⟨_,qc0 _ rfl,rfl⟩
end
variable{prog:qe5}
theorem lM{w:J5}(Z:A.handled=ψ)(I t:J4)(O:t≠I)(vs:Array Value):Draws prog w A I [I,t] vs.size (λi v=>vs[i]?=ς v) (λi h=>h.IsTupleIter I t i/\h.IsTuple t vs) where
 live:=λ_ _ st=>let ⟨o,ho,_⟩:=st.1;⟨o,ho⟩
 frame:=λ_ _ _ st U=>⟨let ⟨o,ho,r⟩:=st.1;⟨o,U I Ξ o ho,r⟩,let ⟨o,ho,r⟩:=st.2;⟨o,U t Ξ o ho,r⟩⟩
 item:=λi s Q E hi st Y=>nj st.1 st.2 (y:=vs[i]) (by simp[hi]) λh' a b=>Y _ h' s.toks (by simp[hi]) ⟨a,let ⟨o,ho,r⟩:=st.2;⟨o,b.extBut _ _ O ho,r⟩⟩ b
 done:=λs Q E st W=>qv Z st.1 st.2 Ξ W
def SqB(b:Bool)(K:xA9)(H:Hp)(a:J4)(xs:η V):Prop:=match b with
 |true=>SqL K H a xs
 |false=>SqT K H a xs
def ItB(b:Bool)(h:Heap)(I a:J4)(i:Nat):Prop:=match b with
 |true=>h.IsListIter I a i
 |false=>h.IsTupleIter I a i
def CoB(b:Bool)(h:Heap)(a:J4)(vs:Array Value):Prop:=match b with
 |true=>h.IsList a vs
 |false=>h.IsTuple a vs
theorem ItB.obj{b:Bool}{h:Heap}{I:J4}{i:Nat}(x:ItB b h I a i):∃o,h.get? I=ς o/\(o.cls=.type "list_iterator"\/o.cls=.type "tuple_iterator")/\∀v,o.data≠.cell v:=by
 cases b with
 |true=>have⟨o,e,c,d⟩:=x;exact⟨o,e,.inl c,λv z=>by rw[d]at z;cases z⟩
 |false=>have⟨o,e,c,d⟩:=x;exact⟨o,e,.inr c,λv z=>by rw[d]at z;cases z⟩
variable{h':Heap}
theorem ItB.at{b:Bool}{h:Heap}{I:J4}{i:Nat}(x:ItB b h I a i)(k:∀o,h.get? I=ς o->h'.get? I=ς o):ItB b h' I a i:=by
 cases b with
 |true=>have⟨o,e,r⟩:=x;exact⟨o,k o e,r⟩
 |false=>have⟨o,e,r⟩:=x;exact⟨o,k o e,r⟩
theorem CoB.obj{b:Bool}{h:Heap}{vs:Array Value}(x:CoB b h a vs):∃o,h.get? a=ς o/\(o.cls=.type "list"\/o.cls=.type "tuple"):=by
 cases b with
 |true=>have⟨o,e,c,_⟩:=x;exact⟨o,e,.inl c⟩
 |false=>have⟨o,e,c,_⟩:=x;exact⟨o,e,.inr c⟩
theorem ze{x y:String}(h:x≠y):qo5 x≠qo5 y:=λz=>h (by cases z;rfl)
theorem tW{b c:Bool}{h:Heap}{I l:J4}{i:Nat}{vs:Array Value}(x:ItB b h I a i)(y:CoB c h l vs):l≠I:=by have⟨o,W,U,_⟩:=x.obj;have⟨o',e2,O⟩:=y.obj;rintro rfl;rw[W]at e2;cases e2;rcases U with U|U<;>rcases O with O|O<;>rw[U]at O<;>exact absurd O (ze Ω)
variable{t':Nat}{fp:η J4}
section
variable{X:Cx}{J0:η (J4×Obj)}{σ:St}{H:Hp}{s:qa8}{a I:J4}{xs:η V}{b:Bool}
theorem Inv.seqB(J:Inv X J0 σ H s)(h:SqB b X.K H a xs):∃J3:η Value,Vals xs J3/\CoB b s.heap a J3.toArray:=by
 cases b with
 |true=>have⟨J3,r,p,_⟩:=J.list h;exact⟨J3,r,p.isList⟩
 |false=>have⟨J3,r,p,_⟩:=J.tuple h;exact⟨J3,r,p⟩
theorem Inv.seqB_inj{ys:η V}(J:Inv X J0 σ H s)(h:SqB b X.K H a xs)(h':SqB b X.K H a ys):xs=ys:=by
 cases b with
 |true=>exact J.list_inj h h'
 |false=>exact J.tuple_inj h h'
theorem tX{w:J5}(U:A.handled=ψ)(O:a≠I)(vs:Array Value):Draws prog w A I [I,a] vs.size (λi v=>vs[i]?=ς v) (λi h=>ItB b h I a i/\CoB b h a vs):=by
 cases b with
 |true=>exact Draws.list U I a O vs
 |false=>exact lM U I a O vs
theorem Inv.turnedL(J:Inv X J0 σ H s)(k:∀b o,b∉fp->s.heap.get? b=ς o->h'.get? b=ς o)(hf:∀b∈fp,dL X J0 H b):Inv X J0 σ H {s with heap:=h',toks:=t'}:=by
 have O:∀b u,H b=ς u->b∉fp:=λb u e z=>by rw[(hf b z).1]at e;cases e
 refine J.step (g':=s.gens) (d':=s.drawn) (ch:=fp) (λb hb=>?_) (λb o _ _ hc e _=>k b o hc e) (λb o _ _ hc e _=>⟨o.slots,k b o hc e⟩) (λ_ _ _ _ n=>n)
  (λb o hc e=>⟨o,k b o hc e⟩) (λ_ _ e=>e) (λ_ _ _ e=>e) (λb ps e=>⟨#[],by rw[e];simp⟩) (λ_ _ e=>e) (λm W=>?_) (λb u e=>?_) J.bare
 .exact⟨(hf b hb).2.2.2.1,(hf b hb).2.1,(hf b hb).2.2.2.2.1,(hf b hb).2.2.2.2.2⟩
 .have⟨o,es,ep,U,r⟩:=W;exact⟨o,es,ep,k _ o (λz=>(hf _ z).2.1 rfl) U,r⟩
 .refine(J.hok b u e).stay (λc v hc q=>k c v ?_ q) (λ_ q=>q) (λ_ _ q=>q) λ_ _ _ q=>q
  rcases hc with z|z
  .rw[z];exact O b u e
  .exact O c _ z
end
section
variable{X:Cx}{J0:η (J4×Obj)}{σ:St}{H:Hp}{s:qa8}
theorem Inv.turnedT {t:J4} (J:Inv X J0 σ H s) (k:∀ b o,b∉fp->s.heap.get? b=ς o->h'.get? b=ς o) (hf:∀ b∈fp,dL X J0 H b) (Y:s.heap.objs.size<=t) (new:ObjOk X.prog X.w (upd H t u) h' t u) :
  Inv X J0 σ (upd H t u) {s with heap:=h',toks:=t'}:=by
 have U:∀b u,H b=ς u->b∉fp:=λb u e z=>by rw[(hf b z).1]at e;cases e
 have Z:H t=ψ:=J.hok.fresh Y;have O:∀b v,H b=ς v->b≠t:=λb v e=>aE e Z
 have W:∀b o,s.heap.get? b=ς o->b≠t:=λb o e z=>by subst z;exact absurd (qb4 e) (qn6.mpr Y)
 refine J.step (g':=s.gens) (d':=s.drawn) (ch:=fp) (λb hb=>?_) (λb o _ _ hc e _=>k b o hc e) (λb o _ _ hc e _=>⟨o.slots,k b o hc e⟩) (λb o _ e n=>by rw[ah (W b o e)];exact n)
  (λb o hc e=>⟨o,k b o hc e⟩) (λb xs e=>by rw[ah (O b _ e)];exact e) (λb o v e=>by rw[ah (O b _ e)];exact e) (λb ps e=>⟨#[],by rw[ah (O b _ e),e];simp⟩) (λb xs e=>by rw[ah (O b _ e)];exact e) (λm hm=>?_) (λb v e=>?_) J.bare
 .exact⟨(hf b hb).2.2.2.1,(hf b hb).2.1,(hf b hb).2.2.2.2.1,(hf b hb).2.2.2.2.2⟩
 .have⟨o,es,ep,ho,r⟩:=hm;exact⟨o,es,ep,k _ o (λz=>(hf _ z).2.1 rfl) ho,r⟩
 .by_cases hb:b=t
  .subst hb;rw[af]at e;cases e;exact new
  .rw[ah hb]at e;refine(J.hok b v e).stay (λc ob hc q=>k c ob ?_ q) (λc q=>by rw[ah (O c _ q)];exact q) (λc ys q=>by rw[ah (O c _ q)];exact q) λc ob ys q=>by rw[ah (O c _ q)];exact q
   rcases hc with z|z
   .rw[z];exact U b v e
   .exact U c _ z
end
noncomputable def Ite(b:Bool)(K:xA9)(a:J4):It:=⟨λi H=>∃xs x,SqB b K H a xs/\xs[i]?=ς x,λi H x H'=>∃t v,H t=ψ/\x=.ref t/\H'=upd H t (.t [.int i,v])/\∀xs,SqB b K H a xs->xs[i]?=ς v,λi H=>∃xs,SqB b K H a xs/\xs.length=i⟩
variable{P:qe5}
theorem qw {w:J5} {elts:η J8} {n:Nat} {pos:Pos} (b:Bool) (a e I:J4) (Y:e≠I) :
  Turn P w K (.Tuple elts n pos) (Ite b K a) [e,I] e (λi h=>(∃old,IsEnum h e I i old)/\ItB b h I a i) where
 mem:=by simp
 obj:=λi h st c hc=>by
  have⟨⟨old,W⟩,U⟩:=st;rwa[qb9,qp7,or_false]at hc;rcases hc with rfl|rfl
  .exact⟨_,W,λv z=>nomatch z⟩
  .have⟨o,q,_,d⟩:=U.obj;exact⟨o,q,d⟩
 keep:=λi h h' st k=>by have⟨⟨old,W⟩,U⟩:=st;exact⟨⟨old,k e Ξ _ W⟩,U.at λo q=>k I Ξ o q⟩
 item:=by
  intro X hP hw hK hc i J0 s σ H E J hf st hg;subst hP hw hK;have⟨⟨old,W⟩,U⟩:=st;have⟨xs,x,hq,hx⟩:=hg;have⟨J3,rv,co⟩:=J.seqB hq;have⟨u,hu,ru⟩:=rv.get hx;have hi:i<J3.toArray.size:=‹(gX hu).1›
  have hae:e∉[I,a]:=by rwa[qb9,qp7,or_false,not_or];refine⟨Y,λz=>?_⟩;have⟨o,q,c⟩:=co.obj;rw[<- z,W]at q;cases q;rcases c with c|c<;>exact absurd c (ze Ω)
  refine wpAny_pyNext_enum_itemD (tX (A:=X.A.in1) (b:=b) (I:=I) (a:=a) (show X.A.in1.handled=ψ from J.ok.hd hc) (tW U co) J3.toArray) W ⟨U,co⟩ hi Y hae λy h1 tk hy ho hs1 hT hsz hk=>⟨_,rfl,?_⟩
  have ey:y=u:=by rw[show J3.toArray[i]?=J3[i]? by simp,hu]at hy;exact(qd5 hy).symm
  subst ey;refine wpAny_letOwnedTupleGo_enum ho λh2 he2 Z=>?_
  have kk:∀c o,c∉[e,I]->s.heap.get? c=ς o->h2.get? c=ς o:=λc o O q=>by rwa[qb9,qp7,or_false,not_or]at O;exact(Z.2 c O.1).trans (hk c o O.1 O.2 q)
  have lt:∀c∈[e,I],c<s.heap.objs.size:=λc O=>by
   rwa[qb9,qp7,or_false]at O;rcases O with rfl|rfl
   .exact qb4 W
   .have⟨o,q,_⟩:=U.obj;exact qb4 q
  -- first the records,then the pair
  have hT2:h2.get? s.heap.objs.size=ς {cls:=.type "tuple",data:=.seq #[.int i tk,y]}:=(Z.2 _ (λz=>qm7 _ (z▸lt e Ξ))).trans hT
  have J2:Inv X J0 σ (upd H s.heap.objs.size (.t [.int i,x])) {s with heap:=h2,toks:=tk+1}:=by refine J.turnedT kk hf (nL _) ⟨by show 2<=qa5;decide,[.int i tk,y],.cons ⟨_,rfl⟩ (.cons ru .nil),?_⟩;exact .of hT2 rfl rfl rfl
  refine⟨.ref s.heap.objs.size,_,J2,rfl,⟨_,x,J.hok.fresh (qs5 _),rfl,rfl,λys hy=>by rw[J.seqB_inj hy hq];exact hx⟩,⟨⟨_,‹he2›⟩,hs1.1.at λo q=>(Z.2 I (qj7 Y)).trans q⟩,λc O=>?_⟩;rw[ah (qc5 (lt c O))];exact(hf c O).1
 done:=by
  intro X hP hw hK hc i J0 s σ H E J hf st hg;subst hP hw hK;have⟨⟨old,W⟩,U⟩:=st;have⟨xs,hq,hx⟩:=hg;have⟨J3,rv,co⟩:=J.seqB hq;have hi:i=J3.toArray.size:=by rw[<- hx];simpa using rv.length
  refine wpAny_pyNext_enum_endD (tX (A:=X.A.in1) (b:=b) (I:=I) (a:=a) (show X.A.in1.handled=ψ from J.ok.hd hc) (tW U co) J3.toArray) W (show ItB b s.heap I a J3.toArray.size/\CoB b s.heap a J3.toArray from⟨hi▸U,co⟩) λh' eb=>⟨rfl,?_⟩
  exact J.turnedL (t':=s.toks) (λc o O q=>eb c o (λz=>O (by simp[z])) q) hf
 self:=λA i s Q E st h=>by have⟨⟨old,W⟩,U⟩:=st;exact wpAny_pyIter_enum W h
omit x in
theorem lN (t:J4) (vs:Array Value) (n:Nat) (Y:ζ J4) (sl:Array (ζ Value)) :
  Meets (qj2.«enumerate.__new__» ⟨[.type "enumerate",.ref t],[]⟩) (λ_ R s=>s.heap.get? t=ς {cls:=.type "tuple",dict:=Y,data:=.seq vs n,slots:=sl}∧
   R (.ok (.ret (.ref (s.heap.push {cls:=.type "tuple_iterator",data:=.fields #[.ref t,.int 0 0]}).objs.size)))
    {s with heap:=(s.heap.push {cls:=.type "tuple_iterator",data:=.fields #[.ref t,.int 0 0]}).push {cls:=.type "enumerate",data:=.fields #[.none,.bool ξ,.ref s.heap.objs.size,qv8 0,.none,.none]}}):=
 .of_wp λprog w A R s h=>by
  have⟨hp,g,d,tk,Z⟩:=s;have⟨O,h⟩:=h;have W:=sub_enumerate;have U:Heap.IsTuple (qa8.heap ⟨hp,g,d,tk,Z⟩) t vs:=⟨_,O,rfl,n,rfl⟩;wp_walk using qr1 O;refine wpAny_stack_any λst=>qa6 ?_
  split
  .rename_i c _ _ _ _ _;cases (c==qo5 "enumerate")<;>(wp_walk using qr1 O,qr6 U)<;>exact⟨_,rfl,h⟩
  . (wp_walk using qr1 O,qr6 U)<;>exact⟨_,rfl,h⟩
section
variable{prog:qe5}{w:J5}{A:ql0}{E:Value->qa8->Prop}{s:qa8}
theorem nl{t:J4}{vs:Array Value}(Z:s.heap.IsTuple t vs)
 (h:∀h',IsEnum h' (s.heap.objs.size+1) s.heap.objs.size 0 .none->h'.IsTupleIter s.heap.objs.size t 0->h'.objs.size=s.heap.objs.size+2→
 (∀c u,s.heap.get? c=ς u->h'.get? c=ς u)->Q (.ref (s.heap.objs.size+1)) {s with heap:=h'}) :
  wpAny (model prog w) A (call (.type "enumerate") [.ref t]) Q E s:=by
 have⟨⟨c,dct,Y,sl⟩,hl,hc,n,U⟩:=Z;have hc:c=.type "tuple":=hc;have U:Y=.seq vs n:=U;subst hc U;refine callType_new F.called_enumerate Ω (F.typeCall_enumerate_1 _) (F.newCall_enumerate_1 _) (λobj=>F.args_object_init_2 obj _) F.entry_enumerate_new (lN t vs n dct sl) ⟨hl,?_⟩;have hz:(s.heap.push {cls:=.type "tuple_iterator",data:=.fields #[.ref t,.int 0 0]}).objs.size=s.heap.objs.size+1:=qn5 ..;have W:((s.heap.push {cls:=.type "tuple_iterator",data:=.fields #[.ref t,.int 0 0]}).push {cls:=.type "enumerate",data:=.fields #[.none,.bool ξ,.ref s.heap.objs.size,qv8 0,.none,.none]}).objs.size=s.heap.objs.size+2:=by rw[qn5,hz]
 rw[hz];have O:=qc0 (s.heap.push {cls:=.type "tuple_iterator",data:=.fields #[.ref t,.int 0 0]}) (o:={cls:=.type "enumerate",data:=.fields #[.none,.bool ξ,.ref s.heap.objs.size,qv8 0,.none,.none]}) rfl;rw[hz]at O;exact⟨⟨_,O,rfl⟩,h _ O ⟨_,gP _ (qc0 _ rfl),rfl,rfl⟩ W λc u z=>gP _ (gP _ z)⟩
theorem nn{b:Bool}{t:J4}{vs:Array Value}(O:CoB b s.heap t vs)
 (h:∀h',IsEnum h' (s.heap.objs.size+1) s.heap.objs.size 0 .none->ItB b h' s.heap.objs.size t 0->h'.objs.size=s.heap.objs.size+2→
 (∀c u,s.heap.get? c=ς u->h'.get? c=ς u)->Q (.ref (s.heap.objs.size+1)) {s with heap:=h'}) :
  wpAny (model prog w) A (call (.type "enumerate") [.ref t]) Q E s:=by
 cases b with
 |true=>exact call_enumerate_list O h
 |false=>exact nl O h
end
section
variable{X:Cx}{x:J8}{p pos tpos:Pos}{sc:J9}{fs:De->ζ (η Dt)}{elts:η J8}{n:Nat}
def DJ(K:xA9)(ta:TA):TI:=λσ H R=>ta σ H λvs H1=>∃b a xs,vs=[.ref a]/\SqB b K H1 a xs/\R (Ite b K a) H1
theorem xj {ta:TA} (h:aI sc "enumerate"=θ) (hm:X.mg "enumerate"=ψ) (ha:PABq X [x] ta) (Z:aY X sc:=by rfl) (hs:qb3 [x] X.env=[(ξ,eval x X.env)]:=by rfl) :
  PI X (.Tuple elts n tpos) (.Call (.Name "enumerate" p) [x] [] pos) (DJ X.K ta):=by
 intro J0 s σ H R I h';refine Call_ (gV I (glD h Z) hm j9 (qo1 (thn (ha pos J0 s σ H _ I h') λus s1 W=>?_) hs rfl));have⟨vs,H1,U,r1,q1⟩:=W;have⟨b,a,xs,rfl,hq,q⟩:=q1;have⟨u,rfl,ru⟩:=gZ r1;cases ru;have⟨J3,rv,co⟩:=U.seqB hq;refine nn co λh2 Y hi hz hk=>wpAny_pyIter_enum Y ?_
 have I2:Inv X J0 σ H1 {s1 with heap:=h2}:=U.kept (t':=s1.toks) hk;refine⟨s1.heap.objs.size+1,[s1.heap.objs.size+1,s1.heap.objs.size],_,_,H1,rfl,I2,qw b a _ _ (qi6 (qp4 _)),⟨⟨_,Y⟩,hi⟩,λc hc=>?_,q⟩
 have O:s1.heap.objs.size<=c:=by
  rwa[qb9,qp7,or_false]at hc;rcases hc with rfl|rfl
  .exact qn0 _
  .exact nL _
 exact U.fpOk O (U.hok.fresh O)
noncomputable def bX(i:Nat):η Dt->η Dt
 |[]=>[]
 |d::r=>.t [.int i,d]::bX (i+1) r
theorem jy:∀(l:η Dt)(i:Nat),(bX i l).length=l.length
 |[],_=>rfl
 |_::r,i=>by simp[bX,jy r]
theorem jz:∀(l:η Dt)(i k:Nat),(bX i l)[k]?=l[k]?.map λd=>.t [.int ((i+k:Nat):Int),d]
 |[],i,k=>by simp[bX]
 |d::r,i,0=>by simp[bX]
 |d::r,i,k+1=>by simp[bX,jz r,Nat.add_assoc,zf3 1]
theorem tY{F:Hp}{d e:Dt}{v w:V}{t:J4}(h:F t=ς (.t [v,w]))(r:Rep K F d v)(O:Rep K F e w):Rep K F (.t [d,e]) (.ref t):=by rwa[Rep,Reps];exact⟨t,_,rfl,SqT.of h,v,[w],rfl,r,w,[],rfl,O,rfl⟩
theorem jA{F:Hp}{b:Bool}(r:Reps K F l xs):tf K F (Ite b K a) (bX 0 l) (λH=>SqB b K H a xs):=λi H F2 O fh Y=>by have hl:=r.length;rw[jy];refine⟨λh=>⟨xs,xs[i],O,by simp[show i<xs.length by lia]⟩,λh=>⟨xs,O,Θ⟩,λx H' hi hy=>?_⟩;have⟨t,v,U,rfl,rfl,Z⟩:=hy;have hx:=Z xs O;have⟨d,W,rd⟩:=r.same_get hx;refine⟨_,upd F2 t (.t [.int i,v]),?_,Step.new fh U,tY af ba ((rd.same Y).same (Same.upd (fh.free U)))⟩;rw[jz,W];simp
end
section
variable{X:Cx}{elt tg iter:J8}{ifs:η J8}{scope:J9}{pos:Pos}{M:η Str}{src:η (ζ Nat)}{wi:TI}{g:TG}{tt:TT}{te:TE}
theorem xk {i:Nat} {y:Str} {py spos:Pos} (hN:X.N.Nodup) (hi':X.N[i]?=ς y) (hx:Loc X.env.scope y) (hf:X.fn y=θ\/X.env.scope.names.lookup y=ς .local)
  (S:CmpScope X.N X.env.scope scope M src) (hc:X.calm=θ) (hi:PI X tg iter wi) (hg:M.Nodup->∀C s H ex,PG (cxC X M scope C s H ex) tg g) (ht:∀C s H ex,PTs (cxC X M scope C s H ex) ifs tt)
  (he:∀C s H ex,PE (cxC X M scope C s H ex) elt te) (hs:∀x,qh4 iter X.env x=pure x)
  (Z:qi0 (.ListComp elt [⟨tg,iter,ifs,0⟩] scope pos) (ς (.Name y py)) spos.line X.env=pure θ) :
  PS X (.Assign [.Name y py] (.ListComp elt [⟨tg,iter,ifs,0⟩] scope pos) spos) (wm (jq src wi g tt te) (er i)):=by
 intro J0 s σ H D I h;rw[exec_Assign_Name_used _ _ _ _ Z];refine wB (zd7 (wB ?_));show wpAny _ X.A (do let _ <- ze4 (.ListComp elt [⟨tg,iter,ifs,0⟩] scope pos) scope X.env _ (newList []) ξ (eval iter X.env) (ς (qz4 (.Name y py) X.env))) _ _ s;refine wB (qn4 (jr (use:=ς (qz4 (.Name y py) X.env)) (QQ:=λ_ s'=>∃O H',Inv X J0 O H' s'/\D.nx O H') S hc hi hg ht he hs I h ?_) (λ_ s' hq=>qa6 (qa6 hq)) λ_ _ e=>e);intro Dd C H' s' m IA U hn q;show wpAny _ X.A (qz4 (.Name y py) X.env (.ref Dd)) _ _ s';refine wpAny_assign_Name (je IA hN hi' hx (v:=.ref Dd) rfl (λs2 I2 hsb=>?_) hf);have⟨a,sb,Y⟩:=hsb
 have ne:C≠a:=by
  rcases Y with rfl|Y
  .exact U.2.1
  .exact qj7 (U.2.2.2.2.1 y a Y)
 exact⟨m,hn.sameBut sb ne,λh3 W=>⟨_,H',I2.but U W,q⟩⟩
end
noncomputable def Bw(x:Str)(n:Int):Str:=if n<1 then Str.empty else if(n==1||x.length==0)=θ then x else⟨(qb0 n.toNat x.cps).foldl (· ++ ·) #[]⟩
noncomputable def qx(O:Bool):Dt->Dt->ζ T
 |.bl a,.bl b=>ς (.f (.bl (if O then !decide (a=b)else decide (a=b))))
 |_,_=>ψ
section
variable{X:Cx}
theorem By:OpR X (qe7 .Is) (λx y H Q=>∃a b,x=.bl a/\y=.bl b/\Q (.bl (decide (a=b))) H):=by intro J0 s σ H x y v u Q I U O h;have⟨a,b,rfl,rfl,q⟩:=h;cases U;cases O;refine wpAny_is_plain rfl (aq I q ?_);cases a<;>cases b<;>rfl
theorem qy:OpR X (qe7 .IsNot) (λx y H Q=>∃a b,x=.bl a/\y=.bl b/\Q (.bl (!decide (a=b))) H):=by intro J0 s σ H x y v u Q I U O h;have⟨a,b,rfl,rfl,q⟩:=h;cases U;cases O;refine wpAny_isNot_plain rfl (aq I q ?_);cases a<;>cases b<;>rfl
theorem DK:R2D K (λx y H Q=>∃a b,x=.bl a/\y=.bl b/\Q (.bl (decide (a=b))) H) (qx ξ):=by
 intro F H x y vx Y Q t fh W U O k;unfold qx at O;rcases O
 cases O;cases W;cases U;exact⟨_,_,rfl,rfl,k.bl fh⟩
theorem ua:R2D K (λx y H Q=>∃a b,x=.bl a/\y=.bl b/\Q (.bl (!decide (a=b))) H) (qx θ):=by
 intro F H x y vx Y Q t fh W U O k;unfold qx at O;rcases O
 cases O;cases W;cases U;exact⟨_,_,rfl,rfl,k.bl fh⟩
def lP(K:xA9):R2:=λx y H Q=>∃a b ys,x=.ref a/\y=.ref b/\SqT K H a []/\SqT K H b ys/\Q (.ref b) H
theorem xl:OpR X (qh7 .Add) (lP X.K):=by
 intro J0 s σ H x y v u Q I rx ry h;have⟨a,b,ys,rfl,rfl,ha,hb,q⟩:=h;cases rx;cases ry;have⟨J3,r1,p1,_⟩:=I.tuple ha;have⟨Y,r2,p2,_⟩:=I.tuple hb;cases r1;have⟨⟨cls,dd,data,sl⟩,ho,hc,n,hd⟩:=id p1;have⟨⟨cls2,Z,data2,sl2⟩,U,O,n2,W⟩:=id p2;simp only at hc hd O W;subst hc hd O W
 exact qw2 ⟨_,ho,rfl⟩ ⟨_,U,rfl⟩ qt8 qy9 PySem.F.slot_tuple_add PySem.F.entry_tuple_add (PySem.F.args_tuple_add_2 _ _)
  (tuple_addW0 a b #[] Y.toArray n n2 dd Z sl sl2 rfl) ⟨ho,U,⟨.ref b,H,I,rfl,q⟩⟩
def ub:Dt->Dt->ζ T
 |.t [],.t m=>ς (.f (.t m))
 |.t (d::l),.t (e::m)=>eM (.t (d::l)) (.t (e::m))
 |_,_=>ψ
theorem xm:OpR X (qh7 .Add) (λx y H Q=>lP X.K x y H Q\/jv X.K x y H Q):=OpR.or xl oG
omit x in
theorem Bz:R2D K (λx y H Q=>lP K x y H Q\/jv K x y H Q) ub:=by
 intro F H x y vx Z Q t fh Y W O k;unfold ub at O;rcases O
 .rename_i m;cases O;have⟨a,vs,rfl,h1,h2⟩:=Y;have⟨b,ws,rfl,U,h4⟩:=W;rwa[Reps]at h2;subst h2;refine .inl ⟨a,b,ws,rfl,rfl,fh.tup h1,fh.tup U,k.leaf.here fh ?_⟩;rwa[Rep];exact⟨b,ws,rfl,U,h4⟩
 .exact .inr (yZ F H _ _ vx Z Q t fh Y W O k)
end
noncomputable def gMin:η Dt->ζ T
 |[.int i,.int j]=>ς (.f (.int (if j<i then j else i)))
 |_=>ψ
noncomputable def aB:Key->Dt
 |.inl i=>.int i
 |.inr x=>.str x
theorem xn{F:Hp}(k:Key):Rep K F (aB k) (kV k):=by
 cases k with
 |inl i=>exact ba
 |inr x=>exact eI
def zf(i j:Int):Prop:=0<j/\j<18446744073709551616
theorem uc:OpR X (qh7 .FloorDiv) (gW zf λi j=>.int (i/j)):=opI λi j _ _ _ _ _ hc q=>by
 have h1:(0:Int)<j:=hc.1;have h2:j<18446744073709551616:=hc.2;refine floordiv_int Θ (by rw[qv6 i Θ];exact q) (.inl (PyProof.noPylong_of_log2 ?_));have O:j.natAbs≠0:=by lia
 exact ql3 ((Nat.log2_lt O).mpr (show j.natAbs<2^64 by lia)) Ω
noncomputable def gi:Dt->Dt->ζ T
 |.int i,.int j=>if 0<j/\j<18446744073709551616 then ς (.f (.int (i/j)))else ψ
 |_,_=>ψ
omit x in
theorem BA:R2D K (gW zf λi j=>.int (i/j)) gi:=by
 intro F H x y vx Y Q t fh W U O k;unfold gi at O;rcases O
 split at O
 .rename_i hc;cases O;cases W;cases U;exact⟨_,_,rfl,rfl,hc,k.int fh⟩
 .cases O
inductive Pt where
 |one (i:Nat)|many (is:List Nat)
noncomputable def i8:η Nat->η Dt->Sl->ζ Sl
 |[],[],δ=>ς δ
 |i::is,d::ds,δ=>i8 is ds (δ.set i (ς (.g d)))
 |_,_,_=>ψ
def bnd:Pt->Dt->Sl->ζ Sl
 |.one i,d,δ=>ς (δ.set i (ς (.g d)))
 |.many is,.t ds,δ=>i8 is ds δ
 |_,_,_=>ψ
noncomputable def Pt.slots:Pt->η Nat
 |.one i=>[i]
 |.many is=>is
def Only(ts:η Nat)(σ O:St):Prop:=O.length=σ.length/\∀j,j∉ts->O[j]?=σ[j]?
def tP(G:Gx)(b:Dt->Sl->ζ Sl)(ts:η Nat):TG:=λv σ H Q=>∃ Φ δ ch F ρ d δ',Ge G Φ δ ch σ F H ρ/\Rep G.K F d v/\b d δ=ς δ'/\∀O,Ge G Φ δ' ch O F H ρ->Only ts σ O->Q O H
def tPs(G:Gx)(b:η Dt->Sl->ζ Sl)(ts:η Nat):TGs:=λvs σ H Q=>∃ Φ δ ch F ρ ds δ',Ge G Φ δ ch σ F H ρ/\Reps G.K F ds vs/\b ds δ=ς δ'/\∀O,Ge G Φ δ' ch O F H ρ->Only ts σ O->Q O H
def GP(G:Gx)(X:Cx)(tg:J8)(p:Pt):Prop:=PG X tg (tP G (bnd p) p.slots)
variable{is:η Nat}
section
variable{G:Gx}{X:Cx}{tg iter e:J8}{es:η J8}{pos:Pos}{i:Nat}
theorem Only.one{v:V}:Only [i] σ (σ.set i (ς v)):=⟨Ξ,λj O=>by rw[qu3 λe=>O (by simp[e])]⟩
theorem Ge.dat{F:Hp}{d:Dt}{v:V}(en:Ge G Φ δ ch σ F H ρ)(r:Rep G.K F d v)(i:Nat):Ge G Φ (δ.set i (ς (.g d))) ch (σ.set i (ς v)) F H ρ:=en.put (.refl en.gh) (c:=.g d) r (λ_ e=>nomatch e) rfl i
theorem BB(h:PG X tg (er i)):GP G X tg (.one i):=PG.mono h λv σ H Q O=>by have⟨Φ,δ,ch,F,ρ,d,δ',en,r,U,k⟩:=O;cases U;exact k _ (en.dat r i) .one
theorem xo:PGs X [] (tPs G (i8 []) []):=λJ0 s σ H vs us Q I r O=>by
 have⟨Φ,δ,ch,F,ρ,ds,δ',en,W,U,k⟩:=O;cases ds with
 |cons d ds=>cases U
 |nil=>cases U;rwa[Reps]at W;exact wl J0 s σ H vs us Q I r ⟨W,k σ en ⟨rfl,λ_ _=>rfl⟩⟩
theorem ud(h1:PG X e (er i))(h2:PGs X es (tPs G (i8 is) is))(hs:(qi2 (e::es) X.env).map (·.2)=qz4 e X.env::(qi2 es X.env).map (·.2)):PGs X (e::es) (tPs G (i8 (i::is)) (i::is)):=
 λJ0 s σ H vs us Q I r U=>by
  have⟨Φ,δ,ch,F,ρ,ds,δ',en,rs,Z,k⟩:=U;cases ds with
  |nil=>cases Z
  |cons d ds=>
   rwa[Reps]at rs;have⟨v,ws,rfl,r1,r2⟩:=rs;refine rN h1 h2 hs J0 s σ H _ us Q I r ⟨v,ws,rfl,Φ,_,ch,F,ρ,ds,δ',en.dat r1 i,r2,Z,λY O ho=>k Y O ⟨?_,λj W=>?_⟩⟩
   .rw[ho.1];simp
   .rwa[qb9,not_or]at W;rw[ho.2 j W.2,gN (qj7 W.1)]
theorem xp{k:Nat}(hK:X.K=G.K)(hc:X.calm=θ)(h:PGs X es (tPs G (i8 is) is))(Z:(qi2 es X.env).length=is.length)(W:(qi2 es X.env).findIdx? (·.1)=ψ):GP G X (.Tuple es k pos) (.many is):=PG.mono (z8 hc h Z W) λv σ H Q U=>by
 have⟨Φ,δ,ch,F,ρ,d,δ',en,r,O,Y⟩:=U
 have hl:∀(is:η Nat)(ds:η Dt)(δ δ':Sl),i8 is ds δ=ς δ'->ds.length=is.length:=by
  intro is;induction is with
  |nil=>intro ds δ δ' h;cases ds<;>first|rfl|cases h
  |cons i is ih=>intro ds δ δ' h;cases ds with
   |nil=>cases h
   |cons d ds=>simp[ih ds _ _ h]
 cases d with
 |t ds=>rwa[Rep]at r;have⟨a,vs,rfl,h1,h2⟩:=r;exact⟨a,vs,rfl,by rw[hK];exact(en.gh.fh.tup h1),by rw[h2.length,hl _ _ _ _ O],Φ,δ,ch,F,ρ,ds,δ',en,h2,O,Y⟩
 |_=>cases O
def tI(G:Gx)(f:FM (η Dt)):TI:=λσ H R=>∃ Φ δ ch F ρ ds ch',Ge G Φ δ ch σ F H ρ/\f δ ch=ς (ds,ch')/\∀J ok F' H' ρ',Adv G F H ρ ch F' H' ρ' ch'->tf G.K F' J ds ok->(∀H2,Same F' H2->ok H2)->R J H'
def GI(G:Gx)(X:Cx)(tg iter:J8)(f:FM (η Dt)):Prop:=PI X tg iter (tI G f)
def iE(f:Fg):FM (η Dt):=λδ ch=>(f δ ch).bind λp=>match p.1 with
 |.g d=>(itD d).map λl=>(l,p.2)
 |_=>ψ
theorem gi_e{l:J8}{f:Fg}(W:X.K=G.K)(h:GE G X l f):GI G X tg l (iE f):=PI.mono (PI.or (wn h) (Ae h)) λσ H R U=>by
 have⟨Φ,δ,ch,F,ρ,ds,ch',en,hf,k⟩:=U;have⟨⟨c,ch1⟩,h1,O⟩:=bS hf;cases c with
 |g d=>
  have⟨l,hl,e⟩:=mS O;cases e;cases d with
  |e l=>cases hl;refine .inl ⟨Φ,δ,ch,F,ρ,_,_,en,h1,λv F' H' ρ' a r=>?_⟩;have r:=r.1;rwa[RelC,RelS,Rep]at r;have⟨x,vs,rfl,q1,q2⟩:=r;rw[W];exact⟨x,rfl,⟨vs,a.gh.fh.seq q1⟩,k _ _ F' H' ρ' a (plain_list.walk q2) λH2 s=>s.seq q1⟩
  |t l=>cases hl;refine .inr ⟨Φ,δ,ch,F,ρ,_,_,en,h1,λv F' H' ρ' a r=>?_⟩;have r:=r.1;rwa[RelC,RelS,Rep]at r;have⟨x,vs,rfl,q1,q2⟩:=r;rw[W];exact⟨x,rfl,⟨vs,a.gh.fh.tup q1⟩,k _ _ F' H' ρ' a (plain_tup.walk q2) λH2 s=>s.tup q1⟩
  |_=>cases hl
 |_=>cases O
noncomputable def gj:η CV->ζ (η Int)
 |[]=>ς []
 |.g (.int i)::l=>(gj l).map (i::·)
 |_=>ψ
theorem lQ{F:Hp}{n:Nat}:∀{l:η CV}{vs:η V}{is:η Int},RelCs G F H ρ n l vs->gj l=ς is->vs=is.map V.int
 |[],_,_,.nil,h=>by cases h;rfl
 |c::l,_,_,.cons r t,h=>by
  cases c with
  |g d=>
   cases d with
   |int i=>have⟨O,h1,rfl⟩:=mS h;rw[lQ t h1];have r:Rep G.K F (.int i) _:=r;rwa[Rep]at r;rw[r];rfl
   |_=>cases h
  |_=>cases h
noncomputable def eO(i:Int):Bool:=decide (-(2^62)<=i)&&decide (i<2^62)
theorem ue{i:Int}(h:eO i=θ):-(2^62)<=i/\i<2^62:=by unfold eO at h;rwa[qa1,decide_eq_true_eq]at h;exact h
def rng:Nat->η Int->ζ (η Dt)
 |1,[j]=>if eO j then ς (aG 0 j.toNat)else ψ
 |_,_=>ψ
def iR(n:Nat)(fs:FM (η CV)):FM (η Dt):=λδ ch=>(fs δ ch).bind λp=>(gj p.1).bind λis=>(rng n is).map λl=>(l,p.2)
section
variable{sc:J9}{p tpos:Pos}{x y z:J8}{fs:FM (η CV)}{elts:η J8}{n:Nat}{f:Fg}
omit x in
theorem qz(h:aI sc "range"=θ)(hm:X.mg "range"=ψ)(ha:GA G X [x] fs)(Z:aY X sc)(hs:qb3 [x] X.env=[(ξ,eval x X.env)]):GI G X tg (.Call (.Name "range" p) [x] [] pos) (iR 1 fs):=PI.mono (m4 h hm ha Z hs) λσ H R Y=>by
 have⟨Φ,δ,ch,F,ρ,ds,ch',en,hf,k⟩:=Y;have⟨q,h1,W⟩:=bS hf;have⟨is,h2,U⟩:=bS W;have⟨l,O,e⟩:=mS U;cases e;refine⟨Φ,δ,ch,F,ρ,q.1,q.2,en,h1,λvs F' H' ρ' a r=>?_⟩;have hv:=lQ r h2;obtain _|⟨j,_|⟨_,_⟩⟩:=is<;>first|(simp[rng]at O;done)|skip
 .have O:(if eO j then ς (aG 0 j.toNat)else ψ)=ς ds:=O;split at O<;>cases O
  rename_i hb;have:=ue hb;exact⟨j,hv,this.1,this.2,k _ _ F' H' ρ' a (plain_range.walk (Reps.map (λ_=>ba) _)) λ_ _=>trivial⟩
noncomputable def iN(f:Fg):FM (η Dt):=λδ ch=>(f δ ch).bind λp=>match p.1 with
 |.g (.e l)=>ς (bX 0 l,p.2)
 |.g (.t l)=>ς (bX 0 l,p.2)
 |_=>ψ
theorem xq(W:X.K=G.K)(h:aI sc "enumerate"=θ)(Z:X.mg "enumerate"=ψ)(ha:GE G X x f)(Y:aY X sc)(hs:qb3 [x] X.env=[(ξ,eval x X.env)]):GI G X (.Tuple elts n tpos) (.Call (.Name "enumerate" p) [x] [] pos) (iN f):=PI.mono (xj h Z (bp ha cj hs) Y hs) λσ H R U=>by
 have⟨Φ,δ,ch,F,ρ,ds,ch',en,hf,k⟩:=U;have⟨⟨c,ch1⟩,h1,O⟩:=bS hf;dsimp only at O;refine⟨Φ,δ,ch,F,ρ,c,ch1,en,h1,λv F' H' ρ' a r=>?_⟩;have r:=r.1;split at O
 .cases O;rwa[RelC,RelS,Rep]at r;have⟨y,vs,rfl,q1,q2⟩:=r;rw[W];exact⟨θ,y,vs,rfl,a.gh.fh.seq q1,k _ _ F' H' ρ' a (jA (b:=true) q2) λH2 s=>s.seq q1⟩
 .cases O;rwa[RelC,RelS,Rep]at r;have⟨y,vs,rfl,q1,q2⟩:=r;rw[W];exact⟨ξ,y,vs,rfl,a.gh.fh.tup q1,k _ _ F' H' ρ' a (jA (b:=false) q2) λH2 s=>s.tup q1⟩
 .cases O
end
noncomputable def cZ(b:Dt->Sl->ζ Sl)(g:Fs):η Dt->Fs
 |[],δ,ch=>ς (.nx δ ch)
 |d::r,δ,ch=>(b d δ).bind λO=>(g O ch).bind λo=>match o with
  |.nx δ2 ch2=>cZ b g r δ2 ch2
  |.ct δ2 ch2=>cZ b g r δ2 ch2
  |.bk δ2 ch2=>ς (.nx δ2 ch2)
  |.rt c ch2=>ς (.rt c ch2)
def qA(fi:FM (η Dt))(b:Dt->Sl->ζ Sl)(g:Fs):Fs:=λδ ch=>(fi δ ch).bind λp=>cZ b g p.1 δ p.2
noncomputable def Fr0.at(Φ:Fr0)(F1:Hp):Fr0:={Φ with F:=F1}
theorem Adv.back{F0 W F1 F:Hp}{O ρ1:Nat->J4}{U ch1:CH}(a:Adv G F0 W O U F1 H1 ρ1 ch1)(b:Adv G F1 W O U F H ρ ch):Adv G F0 W O U F H ρ ch:={b with old:=a.old.trans b.old,nw:=λx o h=>(b.nw x o h).elim (a.nw x o) .inr}
theorem Ge.at{F1:Hp}(en:Ge G Φ δ ch σ F1 H ρ):Ge G (Φ.at F1) δ ch σ F1 H ρ:={en with ad:={en.ad with old:=Same.refl _,nw:=λ_ _ h=>.inl h}}
theorem Ge.back{δ':Sl}{ch':CH}{O:St}{F1 F:Hp}{ρ':Nat->J4}(en:Ge G Φ δ ch σ F1 H1 ρ)(e:Ge G (Φ.at F1) δ' ch' O F H ρ'):Ge G Φ δ' ch' O F H ρ':={e with ad:=en.ad.back e.ad}
theorem PostZ.at{F1:Hp}{D:Ends}{o:Og}(en:Ge G Φ δ ch σ F1 H ρ)(k:PostZ G Φ D o):PostZ G (Φ.at F1) D o:=by
 cases o with
 |nx δ' ch'=>exact λO F H ρ e=>k O F H ρ (en.back e)
 |bk δ' ch'=>exact λO F H ρ e=>k O F H ρ (en.back e)
 |ct δ' ch'=>exact λO F H ρ e=>k O F H ρ (en.back e)
 |rt c ch'=>exact λv F H ρ a r=>k v F H ρ (en.ad.back a) r
variable{body:η J6}{fi:FM (η Dt)}{g:Fs}{pt:Pt}{c:J8}{tc:FM Bool}
theorem BC(hp:zb1 (model X.prog X.w) X.A X.env X.xe)(hc:X.calm=θ)(hi:GI G X tg iter fi)(hg:GP G X tg pt)(hb:GS G X body g)(hs:∀x,qh4 iter X.env x=pure x):GS1 G X (.For tg iter body [] pos) (qA fi (bnd pt) g):=PS.mono (Af hp hc hi hg hb hs) λD σ H hq10=>by
 have⟨Φ0,δ,ch,F,ρ,o,en,hgo,k0⟩:=hq10;have⟨⟨ds,ch1⟩,hd,hgo1⟩:=bS hgo;rw[wO];refine⟨Φ0,δ,ch,F,ρ,ds,ch1,en,hd,λJ ok F1 H1 ρ1 a1 wd ho=>?_⟩;have k:=PostZ.at (en.adv a1) k0;refine tj (n:=ds.length) (λi Y H'=>∃ δ' ch' F' ρ',Ge G (Φ0.at F1) δ' ch' Y F' H' ρ'/\cZ (bnd pt) g (ds.drop i) δ' ch'=ς o) ⟨δ,ch1,F1,ρ1,(en.adv a1).at,‹hgo1›⟩ (λi Y H' ⟨δ',ch',F',ρ',O,_⟩=>?_) ?_ ?_
 .have⟨p1,p2,_⟩:=wd i H' F' (ho H' (O.ad.old.trans O.gh.fh)) O.gh.fh O.ad.old;exact⟨p1,p2⟩
 .rintro i x Y H' H'' hi ⟨δ',ch',F',ρ',O,U⟩ hy;have⟨_,_,p3⟩:=wd i H' F' (ho H' (O.ad.old.trans O.gh.fh)) O.gh.fh O.ad.old;have⟨d,F2,hd',st2,rd⟩:=p3 x H'' hi hy;rw[oE hd']at U;have⟨δ1,h1,hgo3⟩:=bS U;have⟨o1,h2,W⟩:=bS hgo3;refine⟨_,δ',ch',F2,ρ',d,δ1,O.adv (.of O.gh st2),rd,h1,λσ1 en1 _=>⟨_,δ1,ch',F2,ρ',o1,en1,h2,?_⟩⟩;cases o1 with
  |nx δ2 ch2=>exact λσ2 F2 H2 ρ2 Z=>⟨δ2,ch2,F2,ρ2,Z,W⟩
  |ct δ2 ch2=>exact λσ2 F2 H2 ρ2 Z=>⟨δ2,ch2,F2,ρ2,Z,W⟩
  |bk δ2 ch2=>cases W;exact k
  |rt c ch2=>cases W;exact k
 .rintro Y H' ⟨δ',ch',F',ρ',O,U⟩;rw[qu1]at U;cases U;exact k Y F' H' ρ' O
noncomputable def whZ(c:FM Bool)(g:Fs):Nat->Fs
 |0,_,_=>ψ
 |n+1,δ,ch=>(c δ ch).bind λp=>if p.1 then(g δ p.2).bind λo=>match o with
  |.nx δ2 ch2=>whZ c g n δ2 ch2
  |.ct δ2 ch2=>whZ c g n δ2 ch2
  |.bk δ2 ch2=>ς (.nx δ2 ch2)
  |.rt c ch2=>ς (.rt c ch2)else ς (.nx δ p.2)
theorem uf(n:Nat)(hp:zb1 (model X.prog X.w) X.A X.env X.xe)(hc:GT G X c tc)(hb:GS G X body g):GS1 G X (.While c body [] pos) (whZ tc g n):=PS.mono (rP hp hc hb) λD σ H hq12=>by
 have⟨Φ,δ,ch,F,ρ,o,en,hg,k⟩:=hq12;refine⟨λm Z H'=>∃ δ' ch' F' ρ',Ge G Φ δ' ch' Z F' H' ρ'/\whZ tc g m δ' ch'=ς o,⟨n,δ,ch,F,ρ,en,hg⟩,?_⟩;rintro m Z H' ⟨δ',ch',F',ρ',Y,hgo⟩;cases m with
 |zero=>cases hgo
 |succ m=>
  have⟨p,hx,O⟩:=bS hgo;refine⟨Φ,δ',ch',F',ρ',p.1,p.2,Y,hx,λb F1 H1 ρ1 a1 r=>?_⟩;cases r;cases q:p.1 with
  |true=>
   rw[q,if_pos rfl]at O;rw[if_pos rfl];have⟨o1,h2,U⟩:=bS O;refine⟨λW H2=>∃ δ2 ch2 F2 ρ2,Ge G Φ δ2 ch2 W F2 H2 ρ2/\whZ tc g m δ2 ch2=ς o,λW H2 z=>⟨m,qp4 m,z⟩,Φ,δ',p.2,F1,ρ1,o1,Y.adv a1,h2,?_⟩;cases o1 with
   |nx δ2 ch2=>exact λW F2 H2 ρ2 en2=>⟨δ2,ch2,F2,ρ2,en2,U⟩
   |ct δ2 ch2=>exact λW F2 H2 ρ2 en2=>⟨δ2,ch2,F2,ρ2,en2,U⟩
   |bk δ2 ch2=>cases U;exact k
   |rt c ch2=>cases U;exact k
  |false=>rw[q]at O;cases O;exact k Z F1 H1 ρ1 (Y.adv a1)
end
noncomputable def gC(src:η (ζ Nat))(δ:Sl):Sl:=src.map λo=>(o.bind λj=>(δ[j]?).join).map lent
def aF(b:Dt->Sl->ζ Sl)(ft:FM Bool)(fe:Fg)(δ0:Sl):η Dt->CH->ζ (η CV×CH)
 |[],ch=>ς ([],ch)
 |d::r,ch=>(b d δ0).bind λO=>(ft O ch).bind λp=>if p.1 then(fe O p.2).bind λq=>if q.1.sol then(aF b ft fe δ0 r q.2).map λz=>(q.1::z.1,z.2)else ψ else aF b ft fe δ0 r p.2
def eCo(m:Md)(src:η (ζ Nat))(fi:FM (η Dt))(b:Dt->Sl->ζ Sl)(ft:FM Bool)(fe:Fg):Fg:=λδ ch=>(fi δ ch).bind λp=>(aF b ft fe (gC src δ) p.1 p.2).bind λq=>if q.1.length<=qa5 then finL m q.1 q.2 else ψ
section
variable{G:Gx}{Φ:Fr0}{F H F' H' F1 H1:Hp}{ρ ρ' ρ1:Nat->J4}{ch ch' ch1:CH}{src:η (ζ Nat)}{δ:Sl}{σ:St}{D:J4}{done:η CV}{ys:η V}{m:Md}{Q:VK}
theorem nq{k:Nat}{c:CV}(h:(gC src δ)[k]?=ς (ς c)):∃j c',src[k]?=ς (ς j)/\δ[j]?=ς (ς c')/\c=lent c':=by
 unfold gC at h;rw[qa9]at h;cases e:src[k]? with
 |none=>rw[e]at h;cases h
 |some o=>
  rw[e]at h;cases o with
  |none=>cases h
  |some j=>
   rwa[qb2,qa0,qx9]at h;have⟨c',h1,rfl⟩:=mS h;refine⟨j,c',rfl,?_,rfl⟩;cases q:δ[j]? with
   |none=>rw[q]at h1;cases h1
   |some u=>rw[q]at h1;rwa[qp6]at h1;rw[h1]
theorem RelC.lent{n:Nat}{c:CV}{v:V}(h:RelC G F H ρ n c v):RelC G F H ρ n (lent c) v:=by cases c<;>exact h
theorem lT{c:CV}{t:T}:lent c≠.own θ t:=λe=>by cases c<;>cases e
theorem Ge.comp(en:Ge G Φ δ ch σ F H ρ):Ge G ⟨F,H,ρ,ch⟩ (gC src δ) ch (aH src σ) F H ρ:=⟨.refl en.gh,by simp[gC,aH],λk c h=>by have⟨j,U,h1,h2,rfl⟩:=nq h;have⟨v,O,h4⟩:=en.has j U h2;exact⟨v,wS h1 O,h4.lent⟩,λk t a h=>by have⟨_,_,_,_,e⟩:=nq h;exact absurd e.symm lT,λk j t u b a _ h=>by have⟨_,_,_,_,e⟩:=nq h;exact absurd e.symm lT⟩
structure Bd(G:Gx)(F1 H1:Hp)(ρ1:Nat->J4)(ch1:CH)(D:J4)(F H:Hp)(ρ:Nat->J4)(ch:CH)(done:List CV)(ys:List V):Prop where
 adv:Adv G F1 H1 ρ1 ch1 F H ρ ch
 hD:H D=ς (.e ys)
 fD:F D=ψ
 nD:∀i,i<ch.length->ρ i≠D
 rel:RelSs G F ρ ch.length done ys
theorem Bd.step(b:Bd G F1 H1 ρ1 ch1 D F H ρ ch done ys)(a:Adv G F H ρ ch F' H' ρ' ch'):Bd G F1 H1 ρ1 ch1 D F' H' ρ' ch' done ys:=by
 have w:RelW G F H ρ ch.length (.e []) (.ref D)->True:=λ_=>trivial
 refine⟨b.adv.trans a,a.prot D _ b.hD λi hi=>b.nD i hi,?_,λi hi e=>?_,b.rel.mono a.old a.ext a.len⟩
 .cases q:F' D with
  |none=>rfl
  |some o=>
   rcases a.nw D o q with z|z|⟨xs,z⟩
   .rw[b.fD]at z;cases z
   .rw[b.hD]at z;cases z
   .subst z;have O:=a.gh.fh _ _ q;rw[a.prot D _ b.hD λi hi=>b.nD i hi]at O;cases O
 .by_cases h:i<ch.length
  .rw[a.ext i h]at e;exact b.nD i h e
  .have:=a.fr i (qn6.mp h) hi;rw[e,b.hD]at this;cases this
theorem Bd.more(O:H1 D=ψ)(b:Bd G F1 H1 ρ1 ch1 D F H ρ ch done ys){c:CV}{v:V}(r:RelS G F ρ ch.length c v):Bd G F1 H1 ρ1 ch1 D F (upd H D (.e (ys++[v]))) ρ ch (done++[c]) (ys++[v]) where
 adv:=⟨⟨λx o e=>by
     rw[ah λz=>by rw[z,b.fD]at e;cases e];exact b.adv.gh.fh x o e,b.adv.gh.inj,b.adv.gh.out,λi o h=>(b.adv.gh.ok i o h).mono (Same.refl _) (λ_ _=>rfl) (nL _) λu U=>by
     rw[ah (b.nD i (aj h))];exact U⟩,b.adv.len,b.adv.ext,b.adv.fr,λx o h1 h2=>by
     rw[ah λz=>by rw[z,O]at h1;cases h1];exact b.adv.prot x o h1 h2,b.adv.old,b.adv.nw,λx h=>by
     by_cases z:x=D
     .rw[z,af]at h;cases h
     .rw[ah z]at h;exact b.adv.hs x h⟩
 hD:=af
 fD:=b.fD
 nD:=b.nD
 rel:=Paired.app b.rel (.cons r .nil)
omit x in
theorem Bd.fin{c:CV}(U:H1 D=ψ)(b:Bd G F1 H1 ρ1 ch1 D F H ρ ch done ys)(hf:finL m done ch=ς (c,ch'))(k:KM G RV F1 H1 ρ1 ch1 c ch' Q):Q (.ref D) H:=by
 have place:KM G RV F1 H1 ρ1 ch1 (.ref ch.length) (ch++[.e done]) Q->Q (.ref D) H:=λk=>by
  have lt:∀{i:Nat},i<ch.length->(if i=ch.length then D else ρ i)=ρ i:=λ{i} hi=>if_neg (qc5 hi)
  have g:=b.adv.gh
  have Y:∀i x,(ch++[CO.e done])[i]?=ς x->(i<ch.length/\ch[i]?=ς x)\/(i=ch.length/\x=.e done):=λi x O=>by
   by_cases h1:i<ch.length
   .rw[gL h1]at O;exact .inl ⟨h1,O⟩
   .rw[gR (qn6.mp h1)]at O;have h2:i=ch.length:=by have:=aj O;simp at this;lia
    subst h2;simp at O;exact .inr ⟨rfl,O.symm⟩
  refine k.sol (F':=F) (H':=H) (ρ':=λi=>if i=ch.length then D else ρ i) ⟨⟨g.fh,λi j hi W e=>?_,λi x O hl=>?_,λi x O=>?_⟩,by have:=b.adv.len;simp;lia,λi hi=>?_,λi h1 h2=>?_,b.adv.prot,b.adv.old,b.adv.nw,b.adv.hs⟩ ⟨Ξ,Ξ⟩
  .rwa[qc4,qc2,qf9]at hi W;by_cases h1:i=ch.length<;>by_cases h2:j=ch.length
   .rw[h1,h2]
   .rw[if_pos h1,if_neg h2]at e;exact absurd e.symm (b.nD j Θ)
   .rw[if_neg h1,if_pos h2]at e;exact absurd e (b.nD i Θ)
   .rw[if_neg h1,if_neg h2]at e;exact g.inj i j Θ Θ e
  .rcases Y i x O with ⟨h1,h2⟩|⟨h1,h2⟩
   .rw[lt h1];exact g.out i x h2 hl
   .rw[if_pos h1];exact b.fD
  .rwa[qc4,qc2,qf9];rcases Y i x O with ⟨h1,h2⟩|⟨h1,h2⟩
   .rw[lt h1];exact(g.ok i x h2).mono (Same.refl _) (λj W=>lt W) (qn0 _) λu hu=>hu
   .subst h1;subst h2;rw[if_pos rfl];exact⟨ys,b.hD,b.rel.mono (Same.refl _) (λj W=>lt W) (qn0 _)⟩
  .rw[lt (qc7 hi b.adv.len)];exact b.adv.ext i hi
  .rwa[qc4,qc2,qf9]at h2;by_cases h3:i=ch.length
   .rw[if_pos h3];exact U
   .rw[if_neg h3];exact b.adv.fr i h1 Θ
 unfold finL at hf;split at hf
 .rename_i ds hd;have rs:=aX hd b.rel;cases m with
  |o=>have e:=cr hd;cases hf;rw[<- e]at k;exact place k
  |w=>cases hf;exact k _ F H ρ b.adv ⟨⟨D,rfl,rfl,⟨D,ys,rfl,rfl,b.hD,rs⟩,b.fD,b.nD⟩,λ_ _ a e=>by cases e;exact U⟩
  |v=>
   cases hf;have Z:Same F (upd F D (.e ys)):=λx o e=>by rw[ah λz=>by rw[z,b.fD]at e;cases e];exact e
   refine k.sol (F':=upd F D (.e ys)) (H':=H) (ρ':=ρ) ⟨⟨λx o e=>?_,b.adv.gh.inj,λi x O hl=>?_,λi x O=>(b.adv.gh.ok i x O).mono Z (λ_ _=>rfl) (nL _) λ_ h=>h⟩,b.adv.len,b.adv.ext,b.adv.fr,b.adv.prot,b.adv.old.trans Z,λx o h=>?_,b.adv.hs⟩ ?_
   .by_cases z:x=D
    .subst z;rw[af]at e;cases e;exact b.hD
    .rw[ah z]at e;exact b.adv.gh.fh x o e
   .rw[ah (b.nD i (aj O))];exact b.adv.gh.out i x O hl
   .by_cases z:x=D
    .subst z;exact .inr (.inl U)
    .rw[ah z]at h;exact b.adv.nw x o h
   .show Rep G.K _ (.e ds) (.ref D);rwa[Rep];exact⟨D,ys,rfl,SqL.of af,rs.same Z⟩
 .split at hf<;>cases hf
  exact place k
end
section
variable{G:Gx}{X:Cx}{elt tg iter:J8}{ifs:η J8}{scope:J9}{pos:Pos}{M:η Str}{src:η (ζ Nat)}{fi:FM (η Dt)}{ft:FM Bool}{fe:Fg}{m:Md}{pt:Pt}
omit x in
theorem oM(hts:(pt.slots.all λk=>decide (src[k]?=ς ψ))=θ)(σ:St)(H:Hp)(Q:VK)(h:tM G RV (eCo m src fi (bnd pt) ft fe) σ H Q):jq src (tI G fi) (tP G (bnd pt) pt.slots) (tM G RB ft) (tM G RV fe) σ H Q:=by
 have⟨Φ,δ,ch,F,ρ,c,ch',en,hf,k0⟩:=h;have⟨⟨ds,ch0⟩,hd,hf1⟩:=bS hf;have⟨⟨all,ch2⟩,ha,hf2⟩:=bS hf1;dsimp only at ha hf2;rcases hf2
 rename_i hz;rw[sT];refine⟨Φ,δ,ch,F,ρ,ds,ch0,en,hd,λJ ok F1 H1 ρ1 a1 wd ho D hD=>?_⟩;have Z:=en.adv a1;have k:=k0.adv a1
 have wk:∀{σ2:St},Only pt.slots (aH src σ) σ2->Wk (aH src σ) σ2:=λ{σ2} ho=>by
  refine⟨ho.1.symm,λj v hj=>?_⟩;by_cases hm:j∈pt.slots
  .have hn:src[j]?=ς ψ:=of_decide_eq_true (qc9.mp hts j hm);have⟨i,e,_⟩:=AT hj;rw[hn]at e;cases e
  .rw[ho.2 j hm];exact hj
 refine qp (n:=ds.length) (λi H=>∃F ρ' c' ys done O,Bd G F1 H1 ρ1 ch0 D F H ρ' c' done ys/\aF (bnd pt) ft fe (gC src δ) (ds.drop i) c'=ς (O,ch2)/\done++O=all) ?_ ?_ ?_ ?_
 .refine⟨F1,ρ1,ch0,[],[],all,⟨.of Z.gh (Step.made Z.gh.fh hD),af,Z.gh.fh.free hD,λi hi e=>?_,.nil⟩,‹ha›,rfl⟩;have⟨u,hu⟩:=Z.gh.at hi;rw[e,hD]at hu;cases hu
 .rintro i H' ⟨F',ρ',c',ys,done,O,b,_⟩;have⟨p1,p2,_⟩:=wd i H' F' (ho H' (b.adv.old.trans b.adv.gh.fh)) b.adv.gh.fh b.adv.old;exact⟨p1,p2⟩
 .rintro i x H0' H' hi ⟨F0',ρ0,c0,ys,done,O,b0,Y,U⟩ hy0;have⟨_,_,p3⟩:=wd i H0' F0' (ho H0' (b0.adv.old.trans b0.adv.gh.fh)) b0.adv.gh.fh b0.adv.old;have⟨d,F',hd',stw,rd⟩:=p3 x H' hi hy0;have b1:=b0.step (.of b0.adv.gh stw);have en2:=(Z.adv b1.adv).comp (src:=src);rw[oE hd']at Y;have⟨δ1,h1,hgo1⟩:=bS Y;have⟨p,h2,W⟩:=bS hgo1;refine⟨_,_,c0,F',ρ0,d,δ1,en2,rd,h1,λσ2 en3 on=>⟨wk on,_,δ1,c0,F',ρ0,p.1,p.2,en3,h2,λbb F3 H3 ρ3 a3 r3=>?_⟩⟩;cases r3;have b2:=b1.step a3;cases q:p.1 with
  |false=>rw[q]at W;exact⟨F3,ρ3,p.2,ys,done,O,b2,W,U⟩
  |true=>
   rw[q,if_pos rfl]at W;rw[if_pos rfl];have⟨e,h4,hgo3⟩:=bS W;rcases hgo3
   rename_i hs;have⟨z,h5,hgo4⟩:=mS hgo3;cases hgo4;refine⟨_,δ1,p.2,F3,ρ3,e.1,e.2,en3.adv a3,h4,λv F4 H4 ρ4 a4 r4=>?_⟩;have b3:=b2.step a4;refine⟨ys,b3.hD,?_,F4,ρ4,e.2,ys++[v],done++[e.1],z.1,b3.more hD (r4.1.s hs),h5,‹U›⟩;have:done.length<all.length:=by rw[<- U];simp
   rw[b3.rel.length];exact qc7 this hz
 .rintro H' ⟨F',ρ',c',ys,done,O,b,Y,U⟩;rw[qu1]at Y;cases Y;rw[qf6]at U;subst U;exact b.fin hD hf2 k
end
variable{p2:Pos}
section
variable{G:Gx}{X:Cx}{elt tg iter:J8}{ifs:η J8}{scope:J9}{pos spos py apos cpos p:Pos}{M:η Str}{src:η (ζ Nat)}{fi:FM (η Dt)}{ft:FM Bool}{f fa fe fk:Fg}{fs:FM (η CV)}{m:Md}{pt:Pt}{i:Nat}{e o a:J8}{es:η J8}{sc:J9}{x:Str}
noncomputable def tYs:FM Bool:=λ_ ch=>ς (θ,ch)
def GTs(G:Gx)(X:Cx)(ifs:η J8)(f:FM Bool):Prop:=PTs X ifs (tM G RB f)
theorem oN:GTs G X [] tYs:=λJ0 s σ H Q I h=>wL J0 s σ H Q I (h.ret λ_ _ _=>rfl)
theorem oO{c:J8}{f:FM Bool}(h:GT G X c f):GTs G X [c] f:=wM h
theorem xt (S:CmpScope X.N X.env.scope scope M src) (hc:X.calm=θ) (hi:GI G X tg iter fi) (Y:M.Nodup->∀ C s H ex,GP G (cxC X M scope C s H ex) tg pt) (U:∀ C s H ex,GTs G (cxC X M scope C s H ex) ifs ft)
  (W:∀C s H ex,GE G (cxC X M scope C s H ex) elt fe) (O:(pt.slots.all λk=>decide (src[k]?=ς ψ))=θ) (hs:∀x,qh4 iter X.env x=pure x):GE G X (.ListComp elt [⟨tg,iter,ifs,0⟩] scope pos) (eCo m src fi (bnd pt) ft fe):=
 PE.mono (sP S hc hi (λZ C s H ex=>Y Z C s H ex) (λC s H ex=>U C s H ex) (λC s H ex=>W C s H ex) hs) (oM O)
omit x in
theorem xu(h:bQ sc N i x=θ)(hl:iX sc x=θ)(Z:N.Nodup)(e1:aY X sc)(e2:X.N=N)(hf:X.fn x=θ\/X.env.scope.names.lookup x=ς .local)
 (S:CmpScope X.N X.env.scope scope M src) (hc:X.calm=θ) (hi:GI G X tg iter fi) (W:M.Nodup->∀C s H ex,GP G (cxC X M scope C s H ex) tg pt) (ht:∀C s H ex,GTs G (cxC X M scope C s H ex) ifs ft)
 (he:∀C s H ex,GE G (cxC X M scope C s H ex) elt fe) (Y:(pt.slots.all λk=>decide (src[k]?=ς ψ))=θ) (hs:∀x,qh4 iter X.env x=pure x)
 (U:qi0 (.ListComp elt [⟨tg,iter,ifs,0⟩] scope pos) (ς (.Name x py)) spos.line X.env=pure θ):GS1 G X (.Assign [.Name x py] (.ListComp elt [⟨tg,iter,ifs,0⟩] scope pos) spos) (i7 i (eCo m src fi (bnd pt) ft fe)):=by
 subst e2;refine PS.mono (xk Z (fK h) (by rw[e1];exact kf hl) hf S hc hi (λZ C s H ex=>W Z C s H ex) (λC s H ex=>ht C s H ex) (λC s H ex=>he C s H ex) hs U) λD σ H ⟨Φ,δ,ch,F,ρ,o,en,W,k⟩=>?_
 have⟨p,h1,O⟩:=bS W;split at O<;>cases O
 rename_i hk;exact oM Y σ H _ ⟨Φ,δ,ch,F,ρ,p.1,p.2,en,h1,λv F' H' ρ' a r=>k _ F' H' ρ' (en.put a r.1 r.2 hk i)⟩
def fOp:ζ Fg->FM (ζ Int)
 |none=>λ_ ch=>ς (ψ,ch)
 |some f=>λδ ch=>(f δ ch).bind λp=>(cu p.1).map λi=>(ς i,p.2)
def eSl(m:Md)(fa:Fg)(lo hi:ζ Fg):Fg:=λδ ch=>(fa δ ch).bind λp=>(fOp lo δ p.2).bind λq=>(fOp hi δ q.2).bind λr=>(vw r.2 p.1).bind λd=>(gSl d q.1 r.1).bind (fin m r.2)
def RO:RL (ζ Int) (ζ Int):=λ_ _ _ _ _ _ a b=>a=b
theorem xw:PO X ψ (tM G RO (fOp ψ)):=λJ0 s σ H Q I h=>wC J0 s σ H Q I (h.ret λ_ _ _=>rfl)
theorem xx(h:GE G X e f):PO X (ς e) (tM G RO (fOp (ς f))):=λJ0 s σ H Q I O=>by have⟨Φ,δ,ch,F,ρ,c,ch',en,hf,k⟩:=O;exact wD h J0 s σ H Q I (by have⟨p,h1,U⟩:=bS hf;have⟨j,h2,q⟩:=mS U;cases q;exact⟨Φ,δ,ch,F,ρ,p.1,p.2,en,h1,λv F' H' ρ' a r=>⟨j,cw h2 r.1,k _ F' H' ρ' a rfl⟩⟩)
theorem ug{lo hi:ζ J8}{O U:ζ Fg}(hK:X.K=G.K)(he:GE G X e f)(hl:PO X lo (tM G RO (fOp O)))(hh:PO X hi (tM G RO (fOp U))):GE G X (.Subscript e (.Slice lo hi ψ p2) pos) (eSl m f O U):=PE.mono (si AZ he hl hh) λσ H Q hq3=>by have⟨Φ,δ,ch,F,ρ,c,ch',en,hf,k⟩:=hq3;have⟨p,h1,hf2⟩:=bS hf;have⟨q,h2,Z⟩:=bS hf2;have⟨r,h3,hf4⟩:=bS Z;have⟨d,h4,hf5⟩:=bS hf4;have⟨t,h5,hf6⟩:=bS hf5;refine⟨Φ,δ,ch,F,ρ,_,_,en,h1,λv F1 H1 ρ1 Y r1=>⟨Φ,δ,_,F1,ρ1,_,_,en.adv Y,h2,λl F2 H2 ρ2 a2 r2=>⟨Φ,δ,_,F2,ρ2,_,_,(en.adv Y).adv a2,h3,λu F3 H3 ρ3 W r3=>?_⟩⟩⟩;cases r2;cases r3;rw[hK];exact r_sl W.gh.fh (aO W.gh ((r1.1.adv a2).adv W) h4) h5 (bL W.gh hf6 (((k.adv Y).adv a2).adv W))
def kB(m:Md)(g:η Dt->ζ T):η CV->Fg:=λcs _ ch=>(vws ch cs).bind λds=>(g ds).bind (fin m ch)
def eB(m:Md)(g:η Dt->ζ T)(fs:FM (η CV)):Fg:=λδ ch=>(fs δ ch).bind λp=>kB m g p.1 δ p.2
theorem zg{r:η V->Hp->VK->Prop}{g:η Dt->ζ T}(U:CRD G.K r g){Q:VK}(h:tK G RV (kB m g) σ vs H Q):r vs H Q:=by have⟨Φ,δ,ch,F,ρ,cs,c,ch',en,O,hf,k⟩:=h;have⟨ds,h1,hf⟩:=bS hf;have⟨t,h2,hf⟩:=bS hf;exact U F H ds vs Q t en.gh.fh (fU en.gh O h1) h2 (bL en.gh hf k)
theorem uh{id:String}{r:η V->Hp->VK->Prop}{g:η Dt->ζ T}(h:aI sc x=θ)(hc:bR X (.builtin id) r)(hr:CRD G.K r g)(hm:X.mg x=ψ)(Z:qf5 x=ς (.builtin id))(W:GA G X (e::es) fs)(U:aY X sc)(Y:qb3 (e::es) X.env=(ξ,eval e X.env)::qb3 es X.env)(O:(qh6 pos (qb3 es X.env)).any (·.1)=ξ):GE G X (.Call (.Name x p) (e::es) [] pos) (eB m g fs):=PE.mono (ju h hc hm Z W U Y O) λσ H Q h=>(tK.args (k:=kB m g) h).imp λ_ _=>zg hr
theorem ui{Ty:String}{r:η V->Hp->VK->Prop}{g:η Dt->ζ T}(h:aI sc x=θ)(hc:bR X (.type Ty) r)(hr:CRD G.K r g)(hm:X.mg x=ψ)(Z:qf5 x=ς (.type Ty))(W:GA G X (e::es) fs)(U:aY X sc)(Y:qb3 (e::es) X.env=(ξ,eval e X.env)::qb3 es X.env)(O:(qh6 pos (qb3 es X.env)).any (·.1)=ξ):GE G X (.Call (.Name x p) (e::es) [] pos) (eB m g fs):=PE.mono (dN h hc hm Z W U Y O) λσ H Q h=>(tK.args (k:=kB m g) h).imp λ_ _=>zg hr
def eIs(c:String)(f:Fg):Fg:=λδ ch=>(f δ ch).bind λp=>(vw p.2 p.1).bind λd=>ς (.g (.bl (cX c d)),p.2)
theorem qD{cn:Str}{cs:String}{p1:Pos}(hK:X.K=G.K)(h:aI sc "isinstance"=θ)(U:aI sc cn=θ)(hm:X.mg "isinstance"=ψ)(hmc:X.mg cn=ψ)(hv:qf5 cn=ς (.type cs))(hk:kl X.K cs)(ha:GE G X a fa)(e1:aY X sc)
 (he:qb3 [a,.Name cn p2] X.env=(ξ,eval a X.env)::qb3 [.Name cn p2] X.env) (O:qb3 [.Name cn p2] X.env=(ξ,eval (.Name cn p2) X.env)::qb3 [] X.env) (Z:(qh6 pos (qb3 [.Name cn p2] X.env)).any (·.1)=ξ) :
  GE G X (.Call (.Name "isinstance" p1) [a,.Name cn p2] [] pos) (eIs cs fa):=
 PE.mono (ju h nc hm iW (bp ha (bp (sY (v:=.ty cs) U hmc hv rfl e1) cj O) he) e1 he Z) λσ H Q Y=>by have⟨Φ,δ,ch,F,ρ,c,ch',en,hf,k⟩:=Y;have⟨p,hp,hf1⟩:=bS hf;have⟨d,hd,W⟩:=bS hf1;cases W;exact⟨Φ,δ,ch,F,ρ,p.1,p.2,en,hp,λv F' H' ρ' a r=>⟨v,cs,d,_,rfl,by rw[hK];exact(aO a.gh r.1 hd).rep a.gh.fh,rfl,hk d rfl,k.sol a (by show Rep G.K F' _ _;exact ia)⟩⟩
def eMt(m:Md)(g:Dt->η Dt->ζ T)(fa:Fg)(fs:FM (η CV)):Fg:=λδ ch=>(fa δ ch).bind λp=>match p.1 with
 |.g (.str z)=>(fs δ p.2).bind λq=>(vws q.2 q.1).bind λds=>(g (.str z) ds).bind (fin m q.2)
 |_=>ψ
omit x in
theorem BD {name:Str} {id:String} {r:V->η V->Hp->VK->Prop} {g:Dt->η Dt->ζ T} (Z:Slot "str" name id) (hty:typeOf (.builtin id)=pure (.type "method_descriptor")) (hm:MtR X id r) (hr:MRD G.K r g) (ho:GE G X o fa) (ha:GA G X (e::es) fs)
  (W:qh8 o name X.env (eval o X.env)=eval o X.env)
  (hfew:((qh6 cpos (qb3 (e::es) X.env)).all (λx=>!x.1)&&(qo6 cpos (qi3 [] X.env)).all (λx=>x.1.isSome)
   && decide ((e::es).length+([]:η qw8).length+(if([]:η qw8).isEmpty then 0 else 1)<30))=θ)
  (Y:(apos.endLine==cpos.line)=θ) (hs:qb3 (e::es) X.env=(ξ,eval e X.env)::qb3 es X.env) (O:(qh6 cpos (qb3 es X.env)).any (·.1)=ξ) :
  GE G X (.Call (.Attribute o name apos) (e::es) [] cpos) (eMt m g fa fs):=PE.mono (lx PySem.F.plainAttrs_str Z hty hm ho ha W hfew Y hs O) λσ H Q hq5=>by
 have⟨Φ,δ,ch,F,ρ,c,ch',en,hf,k⟩:=hq5;have⟨⟨c1,ch1⟩,h1,U⟩:=bS hf;dsimp only at U;rcases U
 rename_i z;have⟨q,h2,hf3⟩:=bS U;have⟨ds,h3,hf4⟩:=bS hf3;have⟨t,h4,hf5⟩:=bS hf4;refine⟨Φ,δ,ch,F,ρ,_,_,en,h1,λv F1 H1 ρ1 a1 r1=>?_⟩;have r1:=r1.1;have rv:v=.str z:=by simpa only[RelC,RelS,Rep] using r1
 subst rv;exact⟨rfl,Φ,δ,_,F1,ρ1,_,_,en.adv a1,h2,λus F2 H2 ρ2 a2 r2=>hr F2 H2 (.str z) _ ds us Q t a2.gh.fh (RepB.of a2.gh.fh eI) (fU a2.gh r2 h3) h4 (bL a2.gh hf5 ((k.adv a1).adv a2))⟩
def eDn(m:Md)(t:Bool):Fg:=λ_ ch=>fin m ch (if t then .dcT []else .dct [])
theorem xy{t:Bool}:GE G X (.Dict [] [] pos) (eDn m t):=by
 cases t with
 |false=>exact PE.mono sG λσ H Q U p hp=>by have⟨Φ,δ,ch,F,ρ,c,ch',en,hf,k⟩:=U;exact bL (t:=.dct []) en.gh hf k _ _ F (λb=>b=p) (Step.made en.gh.fh hp) ⟨p,[],rfl,rfl,af,rfl,by simp[Reps]⟩ λb z=>by subst z;exact⟨en.gh.fh.free hp,hp,_,af,nofun⟩
 |true=>exact PE.mono sH λσ H Q O p hp=>by have⟨Φ,δ,ch,F,ρ,c,ch',en,hf,k⟩:=O;exact bL (t:=.dcT []) en.gh hf k _ _ F (λb=>b=p) (Step.made en.gh.fh hp) ⟨p,[],rfl,rfl,af,rfl,by simp[Reps]⟩ λb z=>by subst z;exact⟨en.gh.fh.free hp,hp,_,af,nofun⟩
def getV(ch:CH)(x:CV)(k:Dt)(z:CV):ζ CV:=match x with
 |.ref i=>match ch[i]? with
  |some (.dK l)=>(cN k).map λk=>(lkC l k).getD z
  |some (.dT l)=>(isK k).map λk=>(lkC l k).getD z
  |_=>ψ
 |x=>(vw ch x).bind λx=>(bW x k).map λr=>(r.map .g).getD z
def im(ch:CH)(x:CV):Bool:=match x with
 |.ref i=>match ch[i]? with
  |some (.dK _)|some (.dT _)=>θ
  |_=>ξ
 |x=>match vw ch x with
  |some (.dct _ _)|some (.dcT _ _)=>θ
  |_=>ξ
def eGt(fa fk fe:Fg):Fg:=λδ ch=>(fa δ ch).bind λp=>if im p.2 p.1 then(fk δ p.2).bind λq=>(fe δ q.2).bind λr=>(vw r.2 q.1).bind λk=>if r.1.sol then(getV r.2 p.1 k r.1).map λc=>(c,r.2)else ψ else ψ
theorem xz{F:Hp}{c:CV}{v:V}(g:Gh G F H ρ ch)(r:RelC G F H ρ ch.length c v)(h:im ch c=θ):∃a,v=.ref a/\IsD H a:=by
 have O:∀d,vw ch c=ς d->(match (ς d:ζ Dt)with|some (.dct _ _)|some (.dcT _ _)=>θ|_=>ξ)=θ->∃a,v=.ref a/\IsD H a:=λd Y h=>by
  have W:=aO g r Y;cases d with
  |dct ks l=>have⟨a,J1,e,q,_⟩:=W;exact⟨a,e,.inl ⟨J1,q⟩⟩
  |dcT ks l=>have⟨a,J1,e,q,_⟩:=W;exact⟨a,e,.inr ⟨J1,q⟩⟩
  |_=>cases h
 cases c with
 |ref i=>
  have⟨hi,rfl⟩:=r;cases q:ch[i]? with
  |none=>simp[im,q]at h
  |some o=>
   have U:=g.ok i o q;cases o with
   |dK l=>have⟨_,J1,e,_⟩:=U;exact⟨_,rfl,.inl ⟨J1,.of e⟩⟩
   |dT l=>have⟨_,J1,e,_⟩:=U;exact⟨_,rfl,.inr ⟨J1,.of e⟩⟩
   |_=>simp[im,q]at h
 |g d=>exact O d rfl h
 |own b t=>
  cases q:vw ch (.own b t)with
  |none=>simp[im,q]at h
  |some d=>exact O d q (by rwa[im]at h;rw[q]at h;exact h)
 |fn _ _=>cases h
theorem xB{F:Hp}{x z c:CV}{k:Dt}{Z:V}(hI:fV G.K=θ)(g:Gh G F H ρ ch)(rx:RelC G F H ρ ch.length x vx)(rk:RepB G.K F H k vk)(rz:RelS G F ρ ch.length z Z)(h:getV ch x k z=ς c):∃a o,vx=.ref a/\DGet H a vk o/\RelS G F ρ ch.length c (o.getD Z):=by
 have U:(vw ch x).bind (λx=>(bW x k).map λr=>(r.map .g).getD z)=ς c->∃a o,vx=.ref a/\DGet H a vk o/\RelS G F ρ ch.length c (o.getD Z):=λh=>by
  have⟨d,h1,h2⟩:=bS h;have⟨r,O,rfl⟩:=mS h2;have⟨a,o,e,hg,hm⟩:=ie hI g.fh (aO g rx h1) rk O;refine⟨a,o,e,hg,?_⟩;cases r with
  |none=>rw[hm.2 rfl];exact rz
  |some y=>have⟨v,rfl,rv⟩:=hm.1 y rfl;exact rv
 have obj:∀{κ:Type}[DecidableEq κ]{n:Nat}{l:η (κ×CV)}{J1:η (κ×V)}{k:κ},J1.map (·.1)=l.map (·.1)->RelSs G F ρ ch.length (l.map (·.2)) (J1.map (·.2))->RelS G F ρ ch.length ((lkC l k).getD z) ((bA J1 k).getD Z):=λ{κ _ n l J1 k} h2 O=>by
  have Y:=gy (k:=k) h2 O;cases q:lkC l k with
  |none=>rw[q]at Y;rw[Y];exact rz
  |some c=>rw[q]at Y;have⟨v,e,r⟩:=Y;rw[e];exact r
 cases x with
 |ref i=>
  have⟨hi,rfl⟩:=rx;cases q:ch[i]? with
  |none=>simp[getV,q]at h
  |some o=>
   have W:=g.ok i o q;cases o with
   |dK l=>rwa[getV,q]at h;have⟨j,hj,rfl⟩:=mS h;have⟨nd,J1,h1,h2,O⟩:=W;rw[dw rk hj];exact⟨_,_,rfl,DGet.k h1,obj (n:=0) h2 O⟩
   |dT l=>rwa[getV,q]at h;have⟨j,hj,rfl⟩:=mS h;have⟨nd,J1,h1,h2,O⟩:=W;have⟨b,rfl,hb⟩:=kr hI hj rk;exact⟨_,_,rfl,DGet.t h1 (g.fh _ _ hb),obj (n:=0) h2 O⟩
   |_=>simp[getV,q]at h
 |g d=>exact U h
 |own b t=>exact U h
 |fn _ _=>cases h
omit x in
theorem xC{k:Nat}{ke:J8}(hI:fV G.K=θ)(hr:Room k X.A)(ho:GE G X o fa)(hk:GE G X ke fk)(he:GE G X e fe)(mm:M2 X o "get" apos ke e cpos):GE G X (.Call (.Attribute o "get" apos) [ke,e] [] cpos) (eGt fa fk fe):=PE.mono (sI (lA hr) ho hk he mm) λσ H Q hq8=>by
 have⟨Φ,δ,ch,F,ρ,c,ch',en,hf,k⟩:=hq8;have⟨p,h1,O⟩:=bS hf;rcases O
 rename_i hd;have⟨q,h2,hf3⟩:=bS O;have⟨r,h3,hf4⟩:=bS hf3;have⟨d,h4,U⟩:=bS hf4;rcases U
 rename_i hs;have⟨c',h5,e5⟩:=mS U;cases e5;refine⟨Φ,δ,ch,F,ρ,_,_,en,h1,λv F1 H1 ρ1 Y r1=>?_⟩;have⟨a,ea,da⟩:=xz Y.gh r1.1 hd;refine⟨a,ea,da,Φ,δ,_,F1,ρ1,_,_,en.adv Y,h2,λw F2 H2 ρ2 Z r2=>⟨Φ,δ,_,F2,ρ2,_,_,(en.adv Y).adv Z,h3,λu F3 H3 ρ3 W r3=>?_⟩⟩;have⟨b,o,eb,hg,rc⟩:=xB hI W.gh ((r1.1.adv Z).adv W) (aO W.gh (r2.1.adv W) h4) (r3.1.s hs) h5;rw[ea]at eb;cases eb;exact⟨o,hg,((k.adv Y).adv Z).sol W rc⟩
end
noncomputable def bB{κ:Type}[DecidableEq κ]:η (κ×CV)->κ->CV->η (κ×CV)
 |[],k,c=>[(k,c)]
 |p::l,k,c=>if p.1=k then(p.1,c)::l else p::bB l k c
section
variable{κ:Type}[DecidableEq κ]{k:κ}{c:CV}{v:V}
theorem lU{j:κ}:∀{l:η (κ×CV)},j∈(bB l k c).map (·.1)->j=k\/j∈l.map (·.1)
 |[],h=>by simp[bB]at h;exact .inl h
 |p::l,h=>by
  unfold bB at h;split at h
  .exact .inr ‹h›
  .rcases qb9.mp h with e|h
   .exact .inr (by simp[e])
   .exact(lU h).imp_right (qe4 _)
omit x in
theorem ku:∀{l:η (κ×CV)},(l.map (·.1)).Nodup->((bB l k c).map (·.1)).Nodup
 |[],_=>by simp[bB]
 |p::l,h=>by
  have h':=qc8.mp h;unfold bB;split
  .exact h
  .rename_i O;refine qc8.mpr ⟨λz=>?_,ku h'.2⟩;rcases lU z with e|e
   .exact O e
   .exact h'.1 e
theorem io {F:Hp} {n:Nat} (r:RelS G F ρ n c v):∀ {l:η (κ×CV)} {J1:η (κ×V)},(l.map (·.1)).Nodup->J1.map (·.1)=l.map (·.1)->RelSs G F ρ n (l.map (·.2)) (J1.map (·.2))→
  (aw J1 k v).map (·.1)=(bB l k c).map (·.1)/\RelSs G F ρ n ((bB l k c).map (·.2)) ((aw J1 k v).map (·.2))
 |[],[],_,_,_=>⟨rfl,.cons r .nil⟩
 |[],q::J1,_,h,_=>by cases h
 |p::l,[],_,h,_=>by cases h
 |p::l,q::J1,nd,h,rs=>by
  rwa[qa3,qm4]at h;have⟨h1,h2⟩:=h;obtain _|⟨r1,r2⟩:=rs;have W:=qc8.mp nd;by_cases U:p.1=k
  .have Y:q.1=k:=h1.trans U
   have O:∀x∈J1,¬ x.1=k:=λx hx e=>W.1 (by have:x.1∈J1.map (·.1):=List.mem_map_of_mem hx;rw[h2]at this;rw[e,<- U]at this;exact this)
   have e2:aw (q::J1) k v=(q.1,v)::J1:=by
    unfold aw;rw[if_pos (by simp[Y])];rwa[qa3,if_pos Y,qm4,true_and];have:∀x∈J1,(if x.1=k then(x.1,v)else x)=id x:=λx hx=>if_neg (O x hx)
    rw[qe8 this,List.map_id]
   have e1:bB (p::l) k c=(p.1,c)::l:=by rwa[bB,if_pos U]
   rw[e1,e2];exact⟨by simp[h1,h2],.cons r r2⟩
  .have Y:¬ q.1=k:=λz=>U (h1.symm.trans z)
   have e2:aw (q::J1) k v=q::aw J1 k v:=by
    unfold aw;by_cases Z:(J1.any λkv=>decide (kv.1=k))=θ
    .rw[if_pos Z,if_pos (by rwa[ql2,Z,Bool.or_true])];rwa[qa3,if_neg Y]
    .rw[if_neg Z,if_neg (by rwa[ql2,decide_eq_false Y,ze2];exact Z)];rfl
   have e1:bB (p::l) k c=p::bB l k c:=by rwa[bB,if_neg U]
   have⟨i1,i2⟩:=io r W.2 h2 r2;rw[e1,e2];exact⟨by simp[h1,i1],.cons r1 i2⟩
end
def ip(o:CO)(d:Dt)(c:CV):ζ CO:=match o with
 |.e l=>(asI d).bind λj=>(ixN l.length j).map λm=>.e (l.set m c)
 |.dK l=>(cN d).bind λk=>if l.length<qa5 then ς (.dK (bB l k c))else ψ
 |.dT l=>(isK d).bind λk=>if l.length<qa5 then ς (.dT (bB l k c))else ψ
 |_=>ψ
variable{aop:qp3}
section
variable{G:Gx}{X:Cx}{st:J6}{e c o ik:J8}{es:η J8}{pos pos' apos cpos:Pos}{f fa fe fk:Fg}{fs:FM (η CV)}{i:Nat}{Φ:Fr0}{F H F' H' F1 H1:Hp}{ρ ρ' ρ1:Nat->J4}{δ:Sl}{σ:St}{ch ch' ch1:CH}{D:Ends}
theorem xD{κ:Type}{l:η (κ×CV)}{J1:η (κ×V)}(h:J1.map (·.1)=l.map (·.1)):J1.length=l.length:=by have:=congrArg ql7 h;simpa using this
omit x in
theorem xG {o:CO} {w:CO} {d:Dt} {x:CV} {v:V} {P:Hp->Prop} (hI:fV G.K=θ) (g:Gh G F H ρ ch) (Y:ch[i]?=ς o) (Z:RepB G.K F H d vk) (r:RelS G F ρ ch.length x v) (h:ip o d x=ς w) (k:∀ H',Adv G F H ρ ch F H' ρ (ch.set i w)->P H') :
  yR (.ref (ρ i)) vk v H P\/zd (.ref (ρ i)) vk v H P:=by
 have O:=g.ok i o Y;cases o with
 |e l=>have⟨j,U,h⟩:=bS h;have⟨m,hm,rfl⟩:=mS h;have⟨vs,q1,q2⟩:=O;exact .inl ⟨_,vs,j,m,rfl,ig U Z,q1,by rw[RelSs.length q2];exact hm,k _ (.put (o:=.e (l.set m x)) g Y trivial ⟨_,af,Paired.set r m q2⟩)⟩
 |dK l=>
  have⟨j,U,h⟩:=bS h;split at h<;>cases h
  rename_i hz;have⟨W,J1,q1,q2,q3⟩:=O;have⟨z1,z2⟩:=io (k:=j) r W q2 q3;rw[dw Z U];exact .inr ⟨_,_,rfl,DPut.k q1 (by rw[xD q2];exact hz),k _ (.put (o:=.dK (bB l j x)) g Y trivial ⟨ku W,_,af,z1,z2⟩)⟩
 |dT l=>
  have⟨j,U,h⟩:=bS h;split at h<;>cases h
  rename_i hz;have⟨W,J1,q1,q2,q3⟩:=O;have⟨z1,z2⟩:=io (k:=j) r W q2 q3;have⟨b,rfl,hb⟩:=kr hI U Z;exact .inr ⟨_,_,rfl,DPut.t q1 (g.fh _ _ hb) (by rw[xD q2];exact hz),k _ (.put (o:=.dT (bB l j x)) g Y trivial ⟨ku W,_,af,z1,z2⟩)⟩
 |_=>cases h
def sPt(fa fk fe:Fg):Fs:=λδ ch=>(fe δ ch).bind λp=>(fa δ p.2).bind λq=>(fk δ q.2).bind λr=>match q.1 with
 |.ref i=>if p.1.sol then(vw r.2 r.1).bind λd=>((r.2[i]?).bind λo=>ip o d p.1).map λo'=>.nx δ (r.2.set i o')else ψ
 |_=>ψ
structure AsS(X:Cx)(o ik e:J8)(pos pos':Pos):Prop where
 hs:qu5 [.Subscript o ik pos'] e pos.line X.env=pure ξ
 hw:zd8 [.Subscript o ik pos'] e X.env=pure ψ
 h1:(qi2 [.Subscript o ik pos'] X.env).map (·.2)=[qz4 (.Subscript o ik pos') X.env]
 ha:∀ v,qz4 (.Subscript o ik pos') X.env v=(do
     let ov <- qo9 [v] (eval o X.env);let iv <- qo9 [v,ov] (eval ik X.env)
     qw6 pos'
     qo9 [v,ov,iv] (setItem ov iv v)
     release [v,ov,iv] [])
omit x in
theorem BE{k:Nat}(hI:fV G.K=θ)(hr:Room k X.A)(hx:GE G X o fa)(hk:GE G X ik fk)(he:GE G X e fe)(A:AsS X o ik e pos pos'):GS1 G X (.Assign [.Subscript o ik pos'] e pos) (sPt fa fk fe):=
 PS.mono (rO he (z9 hx hk (PSet.or sj (tN (lA hr))) A.ha) A.hs A.hw A.h1) λD σ H Z=>by
  have⟨Φ,δ,ch,F,ρ,og,en,hg,kk⟩:=Z;have⟨p,h1,hg1⟩:=bS hg;have⟨⟨c2,ch2⟩,h2,hg2⟩:=bS hg1;have⟨r,h3,O⟩:=bS hg2;dsimp only at h3 O;cases c2 with
  |ref i=>
   dsimp only at O;rcases O
   rename_i hs;have⟨d,h4,hg4⟩:=bS O;have⟨w,h5,e5⟩:=mS hg4;cases e5;have⟨o,ho,h6⟩:=bS h5;refine⟨Φ,δ,ch,F,ρ,_,_,en,h1,λv F1 H1 ρ1 W r1=>⟨Φ,δ,_,F1,ρ1,_,_,en.adv W,h2,λx F2 H2 ρ2 Y r2=>⟨Φ,δ,_,F2,ρ2,_,_,(en.adv W).adv Y,h3,λy F3 H3 ρ3 U r3=>?_⟩⟩⟩;have⟨hi,rfl⟩:=(r2.1.adv U);exact xG hI U.gh ho (aO U.gh r3.1 h4) (((r1.1.adv Y).adv U).s hs) h6 λH' a4=>kk σ F3 H' ρ3 ((((en.adv W).adv Y).adv U).adv a4)
  |_=>cases O
def putT(t:T)(d x:Dt):ζ T:=match t with
 |.e l=>(asI d).bind λj=>(ixN l.length j).map λm=>.e (l.set m x)
 |.dct l=>(cN d).bind λk=>if l.length<qa5/\(l.map (·.1)).Nodup then ς (.dct (aZ l k x))else ψ
 |.dcT l=>(isK d).bind λk=>if l.length<qa5/\(l.map (·.1)).Nodup then ς (.dcT (aZ l k x))else ψ
 |_=>ψ
noncomputable def ownA:CV->ζ T
 |.own θ t=>ς t
 |_=>ψ
noncomputable def dF(δ:Sl)(i:Nat):ζ T:=(δ[i]?).join.bind ownA
theorem lV{t:T}(h:dF δ i=ς t):δ[i]?=ς (ς (.own θ t)):=by
 unfold dF at h;have⟨c,h1,h2⟩:=bS h;cases q:δ[i]? with
 |none=>rw[q]at h1;cases h1
 |some u=>
  rw[q]at h1;rwa[qp6]at h1;subst h1;cases c with
  |own b t'=>cases b<;>cases h2;rfl
  |_=>cases h2
def sPs(i:Nat)(fk fe:Fg):Fs:=λδ ch=>(fe δ ch).bind λp=>(fk δ p.2).bind λr=>match p.1 with
 |.g x=>(vw r.2 r.1).bind λd=>(dF δ i).bind λt=>(putT t d x).map λt'=>.nx (δ.set i (ς (.own θ t'))) r.2
 |_=>ψ
def cO(c f:Nat)(o:CO)(x:CV):ζ CO:=match o with
 |.ins O l=>if O=c/\x.sol=θ/\l.length<1000 then(if f<l.length then ς (.ins c (l.set f x))else if f=l.length then ς (.ins c (l++[x]))else ψ)else ψ
 |_=>ψ
theorem oP{fn:Str}{v:V}:∀{fs:η (Str×V)}{f:Nat},(fs.map (·.1)).Nodup->(fs.map (·.1))[f]?=ς fn->(bq fn v fs).map (·.1)=fs.map (·.1)/\(bq fn v fs).map (·.2)=(fs.map (·.2)).set f v
 |[],f,_,h=>by simp at h
 |(g,x)::fs,0,_,h=>by simp at h;subst h;simp[bq]
 |(g,x)::fs,f+1,O,h=>by
  rwa[qa3,qc8]at O;rwa[qa3,qd1]at h;have Y:g≠fn:=λe=>O.1 (by rw[e];exact qa4 h)
  have⟨U,W⟩:=oP (v:=v) O.2 h;simp[bq,Y,U,W]
theorem lW{fn:Str}{v:V}:∀{fs:η (Str×V)},fn∉fs.map (·.1)->(bq fn v fs).map (·.1)=fs.map (·.1)++[fn]/\(bq fn v fs).map (·.2)=fs.map (·.2)++[v]
 |[],_=>by simp[bq]
 |(g,x)::fs,h=>by rwa[qa3,qb9,not_or]at h;have⟨O,U⟩:=lW (v:=v) h.2;simp[bq,qj7 h.1,O,U]
omit x in
theorem oQ {c f:Nat} {o w:CO} {x:CV} {v:V} {pn:Str×η Str} {fn:Str} (hc:jx G c) (hp:G.ct[c]?=ς pn) (W:pn.2[f]?=ς fn) (g:Gh G F H ρ ch) (ho:ch[i]?=ς o) (r:RelS G F ρ ch.length x v) (h:cO c f o x=ς w) :
  ∃C dx fs,ClsAt G.K pn.1 C/\H (ρ i)=ς (.ins C dx fs)/\Cls G.K C/\NoAttr G.K C fn/\fs.length<1000/\Adv G F H ρ ch F (upd H (ρ i) (.ins C dx (bq fn v fs))) ρ (ch.set i w):=by
 cases o with
 |ins c' l=>
  have h:(if c'=c/\x.sol=θ/\l.length<1000 then(if f<l.length then ς (CO.ins c (l.set f x))else if f=l.length then ς (CO.ins c (l++[x]))else ψ)else ψ)=ς w:=h;rcases h
  rename_i hz;have⟨rfl,_,hz⟩:=hz;have⟨p',C',dx,fs,O,h0,ha,h2,h3⟩:=g.ok i _ ho;rw[hp]at O;cases O
  have⟨C,U,Y,nd,hna⟩:=hc pn hp;have:=U.inj h0;subst this;have hl:fs.length=l.length:=by have:=RelSs.length h3;simpa using this
  have nd':(fs.map (·.1)).Nodup:=by rw[h2];exact nd.sublist (qo7 _ _)
  refine⟨C,dx,fs,U,ha,Y,hna _ (qa4 W),Θ,?_⟩;split at h
  .rename_i hf;cases h;have Z:(fs.map (·.1))[f]?=ς fn:=by rw[h2,qq9 hf];exact W
   have⟨i1,i2⟩:=oP (v:=v) nd' Z;exact .put g ho trivial ⟨pn,C,dx,_,hp,U,af,by rw[i1,h2];simp,by rw[i2];exact Paired.set r f h3⟩
  .split at h<;>cases h
   rename_i hf
   have Z:fn∉fs.map (·.1):=by
    rw[h2];intro z;have⟨j,hj,e⟩:=List.mem_iff_getElem.mp z;rw[List.getElem_take]at e;have hj':j<l.length:=by rw[qn3]at hj;lia
    have e1:pn.2[j]?=ς fn:=by rw[<- e];simp
    have:=gU nd e1 W;lia
   have⟨i1,i2⟩:=lW (v:=v) Z;refine .put g ho trivial ⟨pn,C,dx,_,hp,U,af,?_,by rw[i2];exact Paired.app h3 (.cons r .nil)⟩;rw[i1,h2,qc4,qc2,qf9,List.take_add_one,<- hf,W];rfl
 |_=>cases h
def sFl(c f:Nat)(fa fe:Fg):Fs:=λδ ch=>(fe δ ch).bind λp=>(fa δ p.2).bind λq=>match q.1 with
 |.ref i=>((q.2[i]?).bind λo=>cO c f o p.1).map λo'=>.nx δ (q.2.set i o')
 |_=>ψ
omit x in
theorem nr{c f:Nat}{o w:CO}{x:CV}(h:cO c f o x=ς w):x.sol=θ:=by
 unfold cO at h;split at h
 .rcases h
  rename_i hz;exact hz.2.1
 .cases h
theorem BF{c f:Nat}{pn:Str×η Str}{fn:Str}(hK:X.K=G.K)(hc:jx G c)(hp:G.ct[c]?=ς pn)(hn:pn.2[f]?=ς fn)(h:GE G X o fa)(he:GE G X e fe)(hs:qi0 e (ς (.Attribute o fn pos')) pos.line X.env=pure ξ):GS1 G X (.Assign [.Attribute o fn pos'] e pos) (sFl c f fa fe):=
 PS.mono (Ay h he hs) λD σ H Y=>by
  have⟨Φ,δ,ch,F,ρ,og,en,hg,kk⟩:=Y;have⟨p,h1,U⟩:=bS hg;have⟨⟨c2,ch2⟩,h2,O⟩:=bS U;cases c2 with
  |ref i=>have⟨w,h5,e5⟩:=mS O;cases e5;have⟨o,ho,Z⟩:=bS h5;refine⟨Φ,δ,ch,F,ρ,_,_,en,h1,λv F1 H1 ρ1 a1 r1=>⟨Φ,δ,_,F1,ρ1,_,_,en.adv a1,h2,λx F2 H2 ρ2 W r2=>?_⟩⟩;have⟨hi,rfl⟩:=r2.1;have⟨C,dx,fs,_,q1,q2,q3,q4,a3⟩:=oQ hc hp hn W.gh ho ((r1.1.adv W).s (nr Z)) Z;rw[hK];exact⟨_,C,dx,fs,rfl,q1,q2,q3,q4,kk σ F2 _ ρ2 (((en.adv a1).adv W).adv a3)⟩
  |_=>cases O
def sFa(c f:Nat)(op:Int->Int->Int)(fa fe:Fg):Fs:=λδ ch=>(fa δ ch).bind λp=>match p.1 with
 |.ref i=>match p.2[i]? with
  |some (.ins O l)=>if O=c then(l[f]?).bind λx=>(cu x).bind λn=>(fe δ p.2).bind λq=>(cu q.1).bind λm=>((q.2[i]?).bind λo=>cO c f o (.g (.int (op n m)))).map λo'=>.nx δ (q.2.set i o')else ψ
  |_=>ψ
 |_=>ψ
omit x in
theorem qE{c f:Nat}{pn:Str×η Str}{fn:Str}{op:Int->Int->Int}{tpos:Pos}(hK:X.K=G.K)(hc:jx G c)(hp:G.ct[c]?=ς pn)(Z:pn.2[f]?=ς fn)(ho:InOp X aop (ipI op))(h:GE G X o fa)(he:GE G X e fe):GS1 G X (.AugAssign (.Attribute o fn tpos) aop e pos) (sFa c f op fa fe):=
 PS.mono (p9 h he ho) λD σ H hq4=>by
  have⟨Φ,δ,ch,F,ρ,og,en,hg,kk⟩:=hq4;have⟨⟨c1,ch1⟩,h1,hg1⟩:=bS hg;clear hg;cases c1 with
  |ref i=>
   dsimp only at hg1;rcases hg1
   rename_i c' l ho1;rcases hg1
   rename_i hcc;subst hcc;have⟨x,h2,hg2⟩:=bS hg1;have⟨n,h3,hg3⟩:=bS hg2;have⟨q,h4,hg4⟩:=bS hg3;have⟨m,h5,W⟩:=bS hg4;have⟨w,h6,e6⟩:=mS W;cases e6;have⟨o2,ho2,h7⟩:=bS h6;refine⟨Φ,δ,ch,F,ρ,_,_,en,h1,λv F1 H1 ρ1 U r1=>?_⟩;have⟨hi,rfl⟩:=r1.1;have⟨p',C',dx,fs,O,h0,ha,z2,z3⟩:=U.gh.ok i _ ho1;rw[hp]at O;cases O
   have⟨C,hC,hcl,nd,hna⟩:=hc pn hp;have:=hC.inj h0;subst this;have⟨u,hu,ru⟩:=Paired.get z3 h2;have hu2:=cw h3 ru.toC (H:=H1);subst hu2;rw[hK];refine⟨_,C,dx,fs,_,rfl,ha,hcl,hna _ (qa4 Z),dP (by rw[z2];exact nd.sublist (qo7 _ _)) (lL z2 h2 Z) hu,Φ,δ,_,F1,ρ1,_,_,en.adv U,h4,λy F2 H2 ρ2 a2 r2=>?_⟩;have hy:=cw h5 r2.1;subst hy;refine⟨n,m,rfl,rfl,?_⟩;have hz:ρ2 i=ρ1 i:=a2.ext i hi;have⟨C2,dx2,Y,q0,q1,q2,q3,q4,a3⟩:=oQ hc hp Z a2.gh ho2 (show RelS G F2 ρ2 _ (.g (.int (op n m))) (.int (op n m))from ba (K:=G.K) (F:=F2)) h7;have:=hC.inj q0;subst this;rw[hz]at q1 a3;exact⟨dx2,Y,q1,q4,kk σ F2 _ ρ2 (((en.adv U).adv a2).adv a3)⟩
  |_=>cases hg1
def sAu(i:Nat)(op:Int->Int->Int)(fe:Fg):Fs:=λδ ch=>((δ[i]?).join.bind cu).bind λn=>(fe δ ch).bind λq=>(cu q.1).map λm=>.nx (δ.set i (ς (.g (.int (op n m))))) q.2
theorem BG{x:Str}{op:Int->Int->Int}(h:bQ sc N i x=θ)(hl:iX sc x=θ)(nd:N.Nodup)(ho:PIp X aop (ipI op))(he:GE G X e fe)(Y:aY X sc)(e2:X.N=N)(hf:X.fn x=θ\/X.env.scope.names.lookup x=ς .local):GS1 G X (.AugAssign (.Name x pos') aop e pos) (sAu i op fe):=by
 subst e2;refine PS.mono (Ab nd (fK h) (by rw[Y];exact kf hl) he ho hf) λD σ H ⟨Φ,δ,ch,F,ρ,og,en,hg,kk⟩=>?_
 have⟨n,h1,U⟩:=bS hg;have⟨q,h2,O⟩:=bS U;have⟨m,h3,Z⟩:=mS O;cases Z;have⟨c,h4,h5⟩:=bS h1
 have W:δ[i]?=ς (ς c):=by
  cases q:δ[i]? with
  |none=>rw[q]at h4;cases h4
  |some u=>rw[q]at h4;rwa[qp6]at h4;rw[h4]
 have⟨v,q1,q2⟩:=en.has i c W;have:=cw h5 q2;subst this;refine⟨_,q1,Φ,δ,ch,F,ρ,_,_,en,h2,λy F2 H2 ρ2 a2 r2=>?_⟩;have hy:=cw h3 r2.1;subst hy;exact⟨n,m,rfl,rfl,kk _ F2 H2 ρ2 ((en.adv a2).dat ba i)⟩
def sUn(pt:Pt)(fe:Fg):Fs:=λδ ch=>(fe δ ch).bind λp=>match p.1 with
 |.g d=>(bnd pt d δ).map λδ'=>.nx δ' p.2
 |_=>ψ
theorem BH{pt:Pt}(he:GE G X e fe)(hg:GP G X tg pt)(hs:qu5 [tg] e pos.line X.env=pure ξ)(hw:zd8 [tg] e X.env=pure ψ)(h1:(qi2 [tg] X.env).map (·.2)=[qz4 tg X.env]):GS1 G X (.Assign [tg] e pos) (sUn pt fe):=PS.mono (rO he hg hs hw h1) λD σ H Z=>by
 have⟨Φ,δ,ch,F,ρ,og,en,W,kk⟩:=Z;have⟨⟨c,ch1⟩,h1,O⟩:=bS W;cases c with
 |g d=>have⟨δ',h2,e2⟩:=mS O;cases e2;exact⟨Φ,δ,ch,F,ρ,_,_,en,h1,λv F1 H1 ρ1 a1 r1=>⟨Φ,δ,_,F1,ρ1,d,δ',en.adv a1,r1.1,h2,λY U _=>kk Y F1 H1 ρ1 U⟩⟩
 |_=>cases O
structure AsM(X:Cx)(o:J8)(m:Str)(apos:Pos)(es:List J8)(cpos:Pos):Prop where
 base:qh8 o m X.env (eval o X.env)=eval o X.env
 few:((qh6 cpos (qb3 es X.env)).all (λx=>!x.1)&&(qo6 cpos (qi3 [] X.env)).all (λx=>x.1.isSome)
     && decide (es.length+([]:List qw8).length+(if([]:List qw8).isEmpty then 0 else 1)<30))=θ
 line:(apos.endLine==cpos.line)=θ
 star:∀e r,es=e::r->qb3 (e::r) X.env=(ξ,eval e X.env)::qb3 r X.env/\(qh6 cpos (qb3 r X.env)).any (·.1)=ξ
noncomputable def bY(ch:CH)(i:Nat):ζ (η CV):=match ch[i]? with
 |some (.e l)=>ς l
 |_=>ψ
theorem bZ{l:η CV}(h:bY ch i=ς l):ch[i]?=ς (.e l):=by
 unfold bY at h;split at h<;>cases h
 assumption
def sAp(fa fe:Fg):Fs:=λδ ch=>(fa δ ch).bind λp=>(fe δ p.2).bind λq=>match p.1 with
 |.ref i=>(bY p.2 i).bind λ_=>(bY q.2 i).bind λl=>if l.length<qa5/\q.1.sol=θ then ς (.nx δ (q.2.set i (.e (l++[q.1]))))else ψ
 |_=>ψ
omit x in
theorem qF(hx:GE G X o fa)(he:GE G X e fe)(A:AsM X o "append" apos [e] cpos)(hsw:qi0 (.Call (.Attribute o "append" apos) [e] [] cpos) ψ pos.line X.env=pure ξ):GS1 G X (.Expr (.Call (.Attribute o "append" apos) [e] [] cpos) pos) (sAp fa fe):=
 PS.mono (cg (lx PySem.F.plainAttrs_list PySem.F.slot_list_append PySem.F.type_list_append fH hx (bp he cj (A.star _ _ rfl).1) A.base A.few A.line (A.star _ _ rfl).1 (A.star _ _ rfl).2) hsw) λD σ H Y=>by
  have⟨Φ,δ,ch,F,ρ,og,en,hg,k⟩:=Y;have⟨⟨c1,ch1⟩,h1,hg1⟩:=bS hg;have⟨q,h2,O⟩:=bS hg1;cases c1 with
  |ref i=>
   have⟨l0,h3,hg3⟩:=bS O;have⟨l,h4,U⟩:=bS hg3;split at U<;>cases U
   rename_i hz;refine⟨Φ,δ,ch,F,ρ,_,_,en,h1,λv F1 H1 ρ1 Z r1=>?_⟩;have⟨vs0,q0,_⟩:=Z.gh.ok i _ (bZ h3);have⟨hi,rfl⟩:=r1.1;refine⟨.inl ⟨rfl,vs0,.inl (.inl q0)⟩,Φ,δ,_,F1,ρ1,_,_,en.adv Z,h2,λw F2 H2 ρ2 W r2=>?_⟩;have⟨vs,q1,q2⟩:=W.gh.ok i _ (bZ h4);have hz2:ρ2 i=ρ1 i:=W.ext i hi;have a3:Adv G F2 H2 ρ2 q.2 F2 _ ρ2 _:=.put (o:=.e (l++[q.1])) (u:=.e (vs++[w])) W.gh (bZ h4) trivial ⟨_,af,Paired.app q2 (.cons (r2.1.s hz.2) .nil)⟩;rw[hz2]at q1 a3;exact⟨_,vs,w,rfl,rfl,q1,by rw[RelSs.length q2];exact hz.1,k σ F2 _ ρ2 (((en.adv Z).adv W).adv a3)⟩
  |_=>cases O
noncomputable def sAs(i:Nat)(fe:Fg):Fs:=λδ ch=>(fe δ ch).bind λq=>match q.1,dF δ i with
 |.g d,ς (.e l)=>if l.length<qa5 then ς (.nx (δ.set i (ς (.own θ (.e (l++[d]))))) q.2)else ψ
 |_,_=>ψ
omit x in
theorem nu(hx:PE X o (pY i))(he:GE G X e fe)(A:AsM X o "append" apos [e] cpos)(U:qi0 (.Call (.Attribute o "append" apos) [e] [] cpos) ψ pos.line X.env=pure ξ):GS1 G X (.Expr (.Call (.Attribute o "append" apos) [e] [] cpos) pos) (sAs i fe):=
 PS.mono (cg (lx PySem.F.plainAttrs_list PySem.F.slot_list_append PySem.F.type_list_append fH hx (bp he cj (A.star _ _ rfl).1) A.base A.few A.line (A.star _ _ rfl).1 (A.star _ _ rfl).2) U) λD σ H W=>by
  have⟨Φ,δ,ch,F,ρ,og,en,Z,k⟩:=W;have⟨⟨c1,ch1⟩,h1,hg1⟩:=bS Z;clear Z;cases c1 with
  |g d=>
   dsimp only at hg1;rcases hg1
   rename_i d' l ed ht;cases ed;split at hg1<;>cases hg1
   rename_i hz;have hs:=lV ht;have⟨w,q1,q2⟩:=en.has i _ hs;have⟨a,rfl,_,⟨_,Y,e0,rfl,z1,z2⟩,_⟩:=id q2;refine⟨_,q1,.inl ⟨rfl,Y,SqL.of z1⟩,Φ,δ,ch,F,ρ,_,_,en,h1,λv F1 H1 ρ1 a1 r1=>?_⟩;have O:=en.adv a1;have⟨w,q3,q4⟩:=O.has i _ hs;rw[q1]at q3;cases q3
   have⟨a',e',_,⟨_,vs,e1,rfl,y1,y2⟩,_⟩:=id q4;cases e';refine⟨_,vs,v,rfl,rfl,y1,by rw[y2.length];exact hz,k σ F1 _ ρ1 (O.poke hs q1 rfl ⟨_,_,rfl,rfl,af,y2.append (Reps.one r1.1)⟩)⟩
  |_=>cases hg1
end
def EntB(h:Heap)(d:J4)(kv:η (Value×Value))(ep:Nat):Prop:=∃o es,h.get? d=ς o/\o.ExactDict/\o.data=.dict es ep/\es.toList.map (λe=>(e.key,e.val))=kv
variable{kv:η (Value×Value)}{ep:Nat}
theorem EntB.upTo{h:Heap}{d:J4}(q:EntB h d kv ep)(k:∀o,h.get? d=ς o->h'.get? d=ς o):EntB h' d kv ep:=let ⟨o,es,h1,r⟩:=q;⟨o,es,k o h1,r⟩
theorem EntB.ty{s:qa8}{d:J4}(q:EntB s.heap d kv ep):s.TypeIs (.ref d) "dict":=let ⟨o,_,h1,h2,_⟩:=q;⟨o,h1,h2.1⟩
theorem EntB.lt{h:Heap}{d:J4}(q:EntB h d kv ep):d<h.objs.size:=let ⟨_,_,h1,_⟩:=q;qb4 h1
abbrev i9(h:Heap)(it d:J4)(i n ep:Nat)(x0:Value)(f:Bool)(ok ov:Value):Prop:=h.get? it=ς {cls:=.type "dict_itemiterator",dict:=ψ,data:=.fields #[x0,.bool f,.ref d,.int i 0,.int n 0,.int ep 0,ok,ov],slots:=#[]}
def ItmS(h:Heap)(it d:J4)(i n ep:Nat):Prop:=∃O f ok U,i9 h it d i n ep O f ok U/\((O=.none/\f=ξ)\/∃a:J4,O=qv8 a/\a≠it/\∃oa,h.get? a=ς oa)
section
variable{prog:qe5}{w:J5}{A:ql0}{E:Value->qa8->Prop}{s:qa8}{v d it:J4}{kv:η (Value×Value)}{i ep:Nat}
theorem qG(lo:(d==qk1)=ξ)(q:EntB s.heap d kv ep)(k:Q (.ref s.heap.objs.size) {s with heap:=s.heap.push {cls:=.type "dict_items",data:=.fields #[.ref d]}}):wpAny (model prog w) A (call (.builtin "dict.items") [.ref d]) Q E s:=by refine qj4 F.slot_dict_items q.ty F.entry_dict_items ?_ (F.args_dict_items_1 _);unfold qj2.«dict.items»;refine wB ?_;unfold qj2.Dict.noArgs;refine wB (qt2 q.ty ?_);show wpAny _ _ (pure d) _ _ s;refine qa6 ?_;show wpAny _ _ (zc0 d >>= _) _ _ s;unfold zc0;rw[if_neg (by rw[lo];exact qb6)];refine wB (qa6 ?_);exact wB (qf3 (qa6 ⟨_,rfl,k⟩))
theorem qH(U:s.heap.IsItemsView v d)(q:EntB s.heap d kv ep)
 (k:∀h',ItmS h' s.heap.objs.size d 0 kv.length ep->(∀b o,s.heap.get? b=ς o->h'.get? b=ς o)->s.heap.objs.size<h'.objs.size->Q (.ref s.heap.objs.size) {s with heap:=h'}):wpAny (model prog w) A (pyIter (.ref v)) Q E s:=by
 have⟨ov,O,hcv,W⟩:=id U;have⟨o,es,Y,e2,Z,e4⟩:=id q;refine wpAny_pyIter_slot U.typeIs za4 (qj4 za4 U.typeIs F.entry_dict_items_iter ?_ (F.args_dict_items_iter_1 _));unfold qj2.«dict_items.__iter__»;refine wB (qa6 (wB ?_));unfold qj2.Dict_items.dictOf;refine wB (qj3 O W (x:=.ref d) rfl (qa6 (wB ?_)));unfold qj2.Dict_items.newIterator;refine wB (qs9 Y Z (wB (zc1 Y Z ?_)));have ez:es.size=kv.length:=by rw[<- e4];simp
 have ow:qn8 "dict_itemiterator"=θ:=by decide
 rwa[ow,if_true]
 refine qf3 (qa6 ⟨_,rfl,"dict_itemiterator",_,⟨_,qc0 _ rfl,rfl⟩,qh2.lookup,?_⟩)
  (by rwa[sizeOk,qq4,qb5,qc4,qc2,qf9,qb7];lia)
 refine k _ ⟨.none,ξ,.none,.none,?_,.inl ⟨rfl,rfl⟩⟩ (λb o e=>gP _ e) (by rw[qn5];exact qp4 _);show(s.heap.push _).get? s.heap.objs.size=_;rw[qc0 _ rfl];simp[qv8,ez,qq4]
theorem qI {U val:Value} {Q:ζ Value->qa8->Prop} (st:ItmS s.heap it d i kv.length ep) (q:EntB s.heap d kv ep) (hx:kv[i]?=ς (U,val))
  (k:∀h',ItmS h' it d (i+1) kv.length ep->h'.get? s.heap.objs.size=ς {cls:=.type "tuple",data:=.seq #[U,val]}->h'.objs.size=s.heap.objs.size+1→
   (∀b o,b≠it->s.heap.get? b=ς o->h'.get? b=ς o)->Q (ς (.ref s.heap.objs.size)) {s with heap:=h'}):wpAny (model prog w) A (qz5 (.ref it)) Q E s:=by
 have⟨hp,g,dr,tk,os⟩:=s;have⟨x0,f,ok,ov,hit,ho⟩:=st;have⟨od,es,e1,e2,e3,e4⟩:=id q;have hT:qa8.TypeIs ⟨hp,g,dr,tk,os⟩ (.ref it) "dict_itemiterator":=⟨_,hit,rfl⟩;unfold qz5;refine wB (wpAny_attempt (qj8 (name:=qd0 "__next__") hT qh2 (qj4 qh2 hT qt3 ?_ (qt0 _))));refine wB (qa6 (wB (wB ?_)))
 first|refine wB (qi8 hT (qa6 ?_))|refine wB (qm0 hT (qa6 ?_))
 refine wB (wpAny_fieldsOf hit rfl ?_);have ow:qn8 "dict_itemiterator"=θ:=by decide
 rwa[ow,if_true];show wpAny _ _ (if(qc3 d==qg8)=θ then _ else _) _ _ _;rw[if_neg (show ¬ ((qc3 d==qg8)=θ)from qb6)];refine wB (qa6 (wB (qs9 e1 e3 ?_)));have ez:es.size=kv.length:=by rw[<- e4];simp
 rw[if_neg (by rw[ez];simp)];refine wB (qa6 (wB (zc1 e1 e3 ?_)));rw[if_neg Ξ];refine qa6 ?_;have li:i<es.size:=by rw[ez];exact(gX hx).1
 have hkv:es[i].key=U/\es[i].val=val:=by rw[<- e4,qa9,zb7,qx5 li]at hx;have:=qd5 hx;exact⟨congrArg Prod.fst this,congrArg Prod.snd this⟩
 rwa[show ¬ ((i:Int)<0)from by lia,if_false,qk3,qx5 li];refine wB ?_
 first|refine wB (qi8 hT (qa6 ?_))|refine wB (qm0 hT (qa6 ?_))
 refine wB (qs4 hT ?_);show wpAny _ _ (setField (.ref it) 3 (qv8 ((i:Int)+1)) >>= _) _ _ ⟨hp,g,dr,tk,os⟩;refine qk0 (ql4 hit Ξ λh1 he1 hs1=>?_)
 replace hs1:qg5 it hp h1:=hs1
 replace he1:i9 h1 it d (i+1) kv.length ep x0 f ok ov:=by
  have e:((i+1:Nat):Int)=(i:Int)+1:=by lia
  unfold i9;rw[e];simpa[qv8] using he1
 have hT1:qa8.TypeIs ⟨h1,g,dr,tk,os⟩ (.ref it) "dict_itemiterator":=⟨_,he1,rfl⟩;refine wB (qm8 (wB (qs4 hT1 (wB (qs4 hT1 ?_)))));show wpAny _ _ (qs2 (.ref it) 6 es[i].key es[i].val) _ _ ⟨h1,g,dr,tk,os⟩;rw[hkv.1,hkv.2];unfold qs2;refine wB (wpAny_newTuple ?_);have Y:i9 (h1.push {cls:=.type "tuple",data:=.seq #[U,val]}) it d (i+1) kv.length ep x0 f ok ov:=gP _ he1;generalize hh2:h1.push {cls:=.type "tuple",data:=.seq #[U,val]}=h2 at Y;have hz1:h1.objs.size=hp.objs.size:=hs1.1;have hil:it<hp.objs.size:=qb4 hit;have ht2:h2.get? hp.objs.size=ς {cls:=.type "tuple",data:=.seq #[U,val]}:=by rw[<- hh2,<- hz1];exact qc0 _ rfl
 have hz2:h2.objs.size=hp.objs.size+1:=by rw[<- hh2,qn5,hz1]
 have hk2:∀b o,b≠it->hp.get? b=ς o->h2.get? b=ς o:=λb o hb e=>by rw[<- hh2];exact gP _ (hs1.extBut b o hb e)
 show wpAny _ _ (qq5 (.ref it) >>= _) _ _ ⟨h2,g,dr,tk,os⟩;rw[hz1];clear hh2 he1 hs1 hT1 hz1 h1
 have fin:∀(h3:Heap)(y0:Value)(f':Bool)(ok' ov':Value),i9 h3 it d (i+1) kv.length ep y0 f' ok' ov'->(∃a:J4,y0=qv8 a/\a≠it/\∃oa,h2.get? a=ς oa)->qg5 it h2 h3->Q (ς (.ref hp.objs.size)) ⟨h3,g,dr,tk,os⟩:=λh3 y0 f' ok' ov' Z ha O=>by have⟨a,rfl,hai,oa,hoa⟩:=ha;exact k h3 ⟨_,f',ok',ov',Z,.inr ⟨a,rfl,hai,oa,O.extBut a oa hai hoa⟩⟩ (O.extBut _ _ (qi6 hil) ht2) (by show h3.objs.size=hp.objs.size+1;rw[O.1,hz2]) λb o hb e=>O.extBut b o hb (hk2 b o hb e)
 refine wB ?_;unfold qq5;rcases ho with ⟨rfl,rfl⟩|⟨a,rfl,hai,oa,hoa⟩
 .refine wB (qj3 Y rfl (x:=.none) rfl (qa6 ?_));rwa[if_true];refine wB (qj3 Y rfl (x:=ok) rfl (wB (qj3 Y rfl (x:=ov) rfl ?_)));refine qk0 (ql4 Y Ξ λh3 Z O=>?_)
  replace O:qg5 it h2 h3:=O
  replace Z:i9 h3 it d (i+1) kv.length ep .none ξ U ov:=Z
  refine qk0 (ql4 Z Ξ λh4 he4 hs4=>?_)
  replace hs4:qg5 it h3 h4:=hs4
  replace he4:i9 h4 it d (i+1) kv.length ep .none ξ U val:=he4
  refine qk0 (ql4 he4 Ξ λh5 he5 hs5=>?_)
  replace hs5:qg5 it h4 h5:=hs5
  replace he5:i9 h5 it d (i+1) kv.length ep (qv8 hp.objs.size) ξ U val:=he5
  refine qk0 (ql4 he5 Ξ λh6 he6 hs6=>?_)
  replace hs6:qg5 it h5 h6:=hs6
  replace he6:i9 h6 it d (i+1) kv.length ep (qv8 hp.objs.size) ξ U val:=he6
  exact wB (wpAny_letGo (qa6 (qa6 ⟨_,rfl,qa6 (fin h6 _ _ _ _ he6 ⟨hp.objs.size,rfl,qi6 hil,_,ht2⟩ (O.trans (hs4.trans (hs5.trans hs6))))⟩)))
 .have ha2:h2.get? a=ς oa:=hk2 a oa hai hoa;refine wB (qj3 Y rfl (x:=qv8 a) rfl ?_);show wpAny _ _ (loadIfAlive ((a:Int).toNat) >>= _) _ _ _;rw[qk3];refine wB (PySem.W.kdx_alive ha2 ?_);rwa[Option.isNone_some,qg6,if_false];refine wB (qj3 Y rfl (x:=.bool f) rfl ?_);cases f with
  |true=>rw[if_neg (show ¬ ((qs6 θ != qs6 θ)=θ)from qb6)];refine qa6 ?_;rwa[qg6,if_false];exact qa6 (qa6 ⟨_,rfl,qa6 (fin h2 _ _ _ _ Y ⟨a,rfl,hai,oa,ha2⟩ (qg5.refl _ _))⟩)
  |false=>
   rw[if_pos (show(qs6 ξ != qs6 θ)=θ from rfl)];refine qk0 (ql4 Y Ξ λh3 Z O=>?_)
   replace O:qg5 it h2 h3:=O
   replace Z:i9 h3 it d (i+1) kv.length ep (qv8 a) θ ok ov:=Z
   refine qa6 ?_;rwa[qg6,if_false];exact qa6 (qa6 ⟨_,rfl,qa6 (fin h3 _ _ _ _ Z ⟨a,rfl,hai,oa,ha2⟩ O)⟩)
theorem uj {Q:ζ Value->qa8->Prop} (nh:A.handled=ψ) (st:ItmS s.heap it d i kv.length ep) (q:EntB s.heap d kv ep) (hi:i=kv.length)
  (k:∀h',Heap.ExtBut it s.heap h'->Q ψ {s with heap:=h'}):wpAny (model prog w) A (qz5 (.ref it)) Q E s:=by
 have⟨x0,f,ok,ov,O,ho⟩:=st;have⟨od,es,W,e2,Z,e4⟩:=id q;have U:s.TypeIs (.ref it) "dict_itemiterator":=⟨_,O,rfl⟩;unfold qz5;refine wB (wpAny_attempt (qj8 (name:=qd0 "__next__") U qh2 (qj4 qh2 U qt3 ?_ (qt0 _))));refine wB (qa6 (wB (wB ?_)))
 first|refine wB (qi8 U (qa6 ?_))|refine wB (qm0 U (qa6 ?_))
 refine wB (wpAny_fieldsOf O rfl ?_);have ow:qn8 "dict_itemiterator"=θ:=by decide
 rwa[ow,if_true];show wpAny _ _ (if(qc3 d==qg8)=θ then _ else _) _ _ s;rw[if_neg (show ¬ ((qc3 d==qg8)=θ)from qb6)];refine wB (qa6 (wB (qs9 W Z ?_)));have Y:es.size=kv.length:=by rw[<- e4];simp
 rw[if_neg (by rw[Y];simp)];refine wB (qa6 (wB (zc1 W Z ?_)));rw[if_neg Ξ];refine qa6 ?_;have ge:es.size<=i:=by rw[Y];lia
 rwa[show ¬ ((i:Int)<0)from by lia,if_false,qk3,Array.getElem?_eq_none ge];refine wB ?_
 first|refine wB (qi8 U (qa6 ?_))|refine wB (qm0 U (qa6 ?_))
 show wpAny _ _ (setField (.ref it) 2 .none >>= _) _ _ s;refine qk0 (zd2 O rfl Ξ ?_);show wpAny _ _ (newExc (.type "StopIteration") [] >>= _) _ _ _;refine wB ?_;rwa[newExc,newTuple];refine wB (qf3 ?_ (by size_fits));refine qk0 (m:=qx4 _ _) (wpAny_of_eq (a:=qg8) (by first|rfl|(rwa[qx4];rfl)) (qf3 ?_ (by size_fits)));rwa[raiseNew];refine wB (wpAny_handled ?_);rw[show A.in1.handled=ψ from nh];refine wB (qa6 (wpAny_throw ?_));refine wB (wpAny_isInstance (b:=true) (T:="StopIteration") ⟨_,qc0 _ rfl,rfl⟩ isSubtype_stop ?_);exact qa6 (k _ (((qq3 ..).extBut.push _).push _))
end
abbrev Orc:=J4->Hp->η Dt->ζ T
theorem oR:∀a b:η Nat,ltCps a b=ξ->ltCps b a=ξ->a=b
 |[],[],_,_=>rfl
 |[],_::_,h,_=>by simp[ltCps]at h
 |_::_,[],_,h=>by simp[ltCps]at h
 |x::r,y::t,h,h'=>by
  rwa[ltCps,qu4,decide_eq_false_iff_not,qt4,beq_iff_eq]at h h';have e:x=y:=by lia
  subst e;rw[oR r t (h.2 rfl) (h'.2 rfl)]
theorem oS:∀a b:η Nat,ltCps a b=θ->ltCps b a=ξ
 |[],[],h=>by simp[ltCps]at h
 |[],_::_,_=>rfl
 |_::_,[],h=>by simp[ltCps]at h
 |x::r,y::t,h=>by
  rwa[ltCps,qf0,decide_eq_true_eq,qa1,beq_iff_eq]at h;rwa[ltCps,qu4,decide_eq_false_iff_not,qt4,beq_iff_eq];rcases h with h|⟨rfl,h⟩
  .exact⟨Θ,λe=>Θ⟩
  .exact⟨Θ,λ_=>oS r t h⟩
theorem jB:∀a b c:η Nat,ltCps b a=ξ->ltCps c b=ξ->ltCps c a=ξ
 |[],b,c,h1,h2=>by
  cases b with
  |nil=>exact h2
  |cons y t=>
   cases c with
   |nil=>simp[ltCps]at h2
   |cons z u=>rfl
 |x::r,[],c,h1,h2=>by simp[ltCps]at h1
 |x::r,y::t,[],h1,h2=>by simp[ltCps]at h2
 |x::r,y::t,z::u,h1,h2=>by
  rwa[ltCps,qu4,decide_eq_false_iff_not,qt4,beq_iff_eq]at h1 h2 ⊢;refine⟨Θ,λe=>?_⟩;subst e;have e:y=z:=by lia
  subst e;exact jB r t u (h1.2 rfl) (h2.2 rfl)
noncomputable def leS(a b:Str):Bool:=!ltCps b.cps.toList a.cps.toList
theorem leS_iff{a b:Str}:leS a b=θ↔ltCps b.cps.toList a.cps.toList=ξ:=by simp[leS]
theorem jC(a b c:Str)(h:leS a b=θ)(h':leS b c=θ):leS a c=θ:=leS_iff.mpr (jB _ _ _ (leS_iff.mp h) (leS_iff.mp h'))
theorem qJ(a b:Str):(leS a b||leS b a)=θ:=by
 cases h:leS a b with
 |true=>rfl
 |false=>
  have h1:ltCps b.cps.toList a.cps.toList=θ:=by simpa[leS] using h
  simp[leS_iff.mpr (oS _ _ h1)]
theorem uk{a b:Str}(h:leS a b=θ)(h':leS b a=θ):a=b:=by
 have e:=oR _ _ (leS_iff.mp h') (leS_iff.mp h);cases a with
 |mk a=>cases b with
  |mk b=>simp only at e;rw[Array.toList_inj.mp e]
noncomputable def dG(ss:η Str):η Str:=ss.mergeSort leS
theorem cz(ss:η Str):(dG ss).Perm ss:=List.mergeSort_perm ss leS
theorem ul(ss:η Str):(dG ss).Pairwise λa b=>leS a b=θ:=List.pairwise_mergeSort jC qJ ss
theorem jD:∀(p:Str)(l:η Str),risingS p l=θ->(p::l).Pairwise λa b=>leS a b=θ
 |p,[],_=>by simp
 |p,x::r,h=>by
  rwa[risingS,qa1]at h;have U:=jD x r h.2;have h1:leS p x=θ:=h.1;refine ql5.mpr ⟨λy O=>?_,U⟩;rcases qb9.mp O with rfl|O
  .exact h1
  .exact jC _ _ _ h1 ((ql5.mp U).1 y O)
theorem qK:∀l:η Str,sortedS l=θ->l.Pairwise λa b=>leS a b=θ
 |[],_=>qx8
 |x::r,h=>jD x r h
theorem jE:∀{a b:η Str},a.Perm b->(a.Pairwise λa b=>leS a b=θ)->(b.Pairwise λa b=>leS a b=θ)->a=b
 |[],_,p,_,_=>p.nil_eq
 |x::r,b,p,O,hb=>by
  cases b with
  |nil=>exact absurd p.length_eq Ξ
  |cons y t=>
   have W:x∈y::t:=p.mem_iff.mp (.head _);have U:y∈x::r:=p.mem_iff.mpr (.head _)
   have e:x=y:=by
    rcases qb9.mp W with h|h
    .exact h
    .rcases qb9.mp U with h'|h'
     .exact h'.symm
     .exact uk ((ql5.mp O).1 y h') ((ql5.mp hb).1 x h)
   subst e;rw[jE (List.Perm.cons_inv p) (ql5.mp O).2 (ql5.mp hb).2]
theorem iq:∀{ss:η Str}{J3:η Value},Vals (ss.map V.str) J3->StrsAre J3 ss
 |[],_,h=>by cases h;exact .nil
 |x::ss,_,h=>by
  cases h with
  |cons h1 h2=>have⟨t,rfl⟩:=h1;exact .cons x t (iq h2)
theorem jF:∀{J3:η Value}{ss:η Str},StrsAre J3 ss->Vals (ss.map V.str) J3
 |_,_,.nil=>.nil
 |_,_,.cons x t h=>.cons ⟨t,rfl⟩ (jF h)
section
variable{X:Cx}
theorem kx:bR X (.builtin "sorted") (λxs H Q=>∃p ss,xs=[.ref p]/\SqL X.K H p (ss.map V.str)/\ss.length<64/\∀l,H l=ψ->Q (.ref l) (upd H l (.e ((dG ss).map V.str)))):=by
 intro J0 s σ H xs us Q I r h;have⟨p,ss,rfl,hq,hz,q⟩:=h;have⟨u,rfl,rx⟩:=gZ r;cases rx;have⟨J3,W,pl,hz'⟩:=I.list hq;have hS:=iq W;have Y:J3.length=ss.length:=by have:=W.length;simpa using this.symm
 refine sorted_strs pl.isList hS Θ λU O Z a2 a3=>?_
 have e:O=dG ss:=jE (a2.trans (cz ss).symm) (qK O a3) (ul ss);subst e;have⟨c,hc⟩:=sortedAll_at s.heap J3 U;refine⟨.ref (s.heap.objs.size+1),_,I.laid (t':=s.toks) (λ_ _=>sortedAll_old) (qn0 _) (show ObjOk X.prog X.w _ _ _ (.e ((dG ss).map V.str))from⟨?_,U.toList,c,jF Z,hc⟩),rfl,q _ (I.hok.fresh (qn0 _))⟩;rw[qa2,(cz ss).length_eq];exact qd7 (qq7 hz) Ω
def gD:η Dt->ζ T
 |[.e ds]=>(cY ds).bind λss=>if ss.length<64 then ς (.e ((dG ss).map .str))else ψ
 |_=>ψ
theorem jG{F:Hp}:∀ss:η Str,Reps K F (ss.map .str) (ss.map V.str)
 |[]=>by rwa[qg0,Reps]
 |x::ss=>by rwa[qa3,Reps];exact⟨_,_,rfl,by rwa[Rep],jG ss⟩
omit x in
theorem um:CRD K (λxs H Q=>∃p ss,xs=[.ref p]/\SqL K H p (ss.map V.str)/\ss.length<64/\∀l,H l=ψ->Q (.ref l) (upd H l (.e ((dG ss).map V.str)))) gD:=by
 intro F H ds vs Q t fh r O k;unfold gD at O;rcases O
 have⟨ss,hs,O⟩:=qn2.mp O;split at O<;>cases O
 rename_i hz;have⟨v,rfl,U⟩:=cq r;have⟨a,vs,rfl,h1,h2⟩:=U;have:=fM h2 hs;subst this;exact⟨a,ss,rfl,h1,hz,λp hp=>bT k fh (jG _) hp⟩
end
noncomputable def once{K:Type}[DecidableEq K](O:η K)(k:K):η K:=if k∈O then O else O++[k]
def met{K:Type}[DecidableEq K](val:Nat->K)(i:Nat):η K:=((qd9 i).map val).foldl once []
noncomputable def nv(ks:η Key):Dt:=.t (ks.map aB)
theorem jH{F:Hp}:∀ks:η Key,Reps K F (ks.map aB) (ks.map kV)
 |[]=>by rwa[qg0,Reps]
 |k::ks=>by rwa[qa3,Reps];exact⟨_,_,rfl,xn k,jH ks⟩
theorem uo{F:Hp}{b:J4}(h:F b=ς (.t (ks.map kV))):Rep K F (nv ks) (.ref b):=by unfold nv;rwa[Rep];exact⟨b,_,rfl,SqT.of h,jH ks⟩
theorem jI{α β:Type}{R:α->β->Prop}:∀{l:η α}{m:η β},Paired R l m->∀{i:Nat}{a:α},l[i]?=ς a->∃b,m[i]?=ς b/\R a b
 |_,_,.nil,i,a,h=>by simp at h
 |_,_,.cons r t,0,a,h=>by simp at h;subst h;exact⟨_,rfl,r⟩
 |_,_,.cons r t,i+1,a,h=>by simpa using jI t ‹h›
theorem cA{α β:Type}{R:α->β->Prop}:∀{l:η α}{m:η β},Paired R l m->l.length=m.length
 |_,_,.nil=>rfl
 |_,_,.cons r t=>by simp[cA t]
section
variable{X:Cx}{tg:J8}
theorem zh{s:qa8}(I:Inv X J0 σ H s)(h:Rd H a u):ObjOk X.prog X.w H s.heap a u:=by
 rcases h with h|⟨o,h⟩
 .exact I.hok a _ h
 .exact(I.hok a _ h).2
end
theorem kz:typeLookup (.type "list") "keys"=pure ψ:=by rw[typeLookup_type,zc2];kernel_rfl
theorem ja:typeLookup (.type "tuple") "keys"=pure ψ:=by rw[typeLookup_type,zc2];kernel_rfl
theorem bc:plainId "dict.update.loop"=θ:=χ
theorem c6:entryFor table "dict.update.loop"=ς qj2.«dict.update.loop»:=entryFor_of_fast (by kernel_rfl)
noncomputable def tyB(b:Bool):String:=if b then "list" else "tuple"
section
variable{prog:qe5}{w:J5}{A:ql0}{E:Value->qa8->Prop}{s:qa8}{a it:J4}{J3:Array Value}{c:Nat}{sl:Array (ζ Value)}{b:Bool}{i:Nat}
theorem qL {Q:ζ Value->qa8->Prop} (W:s.heap.get? a=ς {cls:=.type (tyB b),dict:=ψ,data:=.seq J3 c,slots:=sl}) (hh:A.handled=ψ)
  (Z:∀h' tk,(∀b ob,s.heap.get? b=ς ob->h'.get? b=ς ob)->Q ψ {s with heap:=h',toks:=tk}) :
  wpAny (model prog w) A (getAttr? (.ref a) "keys") Q E s:=by
 have⟨h,g,d,t,os⟩:=s;have f1:=sub_AttributeError;cases b with
 |true=>
  replace W:h.get? a=ς {cls:=.type "list",dict:=ψ,data:=.seq J3 c,slots:=sl}:=W
  have Y:∀O,(⟨h,g,d,O,os⟩:qa8).TypeIs (.ref a) "list":=λ_=>⟨_,W,rfl⟩
  have f3:=qr2.lookup;have f4:=qr2.bind (.ref a);have f5:=am_list_getattr_none;unfold getAttr? getAttrBy? getAttrBy
  repeat (any_goals (first|assumption|exact Y _|((with_reducible show wpAny _ _ (call (Value.builtin "list.__getattribute__") _ _) _ _ _);refine qu8 qr2 (Y _) am_entry_list_getattribute (F.args_list_getattribute_2 _ _) (meets_getattribute_miss_list a J3 c sl "keys" _ kz χ) ⟨W,hh,λh' O e U=>?_⟩)|wp_step))
  have⟨t',u',he⟩:=U.there;show wpAny _ _ (qs1 _ _ _ _ _ _ _) _ _ _;unfold qs1
  repeat (any_goals (first|assumption|wp_step))
  exact Z _ _ U.keeps
 |false=>
  replace W:h.get? a=ς {cls:=.type "tuple",dict:=ψ,data:=.seq J3 c,slots:=sl}:=W
  have Y:∀O,(⟨h,g,d,O,os⟩:qa8).TypeIs (.ref a) "tuple":=λ_=>⟨_,W,rfl⟩
  have f3:=qp2.lookup;have f4:=qp2.bind (.ref a);have f5:=am_tuple_getattr_none;unfold getAttr? getAttrBy? getAttrBy
  repeat (any_goals (first|assumption|exact Y _|((with_reducible show wpAny _ _ (call (Value.builtin "tuple.__getattribute__") _ _) _ _ _);refine qu8 qp2 (Y _) am_entry_tuple_getattribute (F.args_tuple_getattribute_2 _ _) (meets_getattribute_miss_tuple a J3 c sl "keys" _ ja χ) ⟨W,hh,λh' O e U=>?_⟩)|wp_step))
  have⟨t',u',he⟩:=U.there;show wpAny _ _ (qs1 _ _ _ _ _ _ _) _ _ _;unfold qs1
  repeat (any_goals (first|assumption|wp_step))
  exact Z _ _ U.keeps
theorem qM{l:J4}{Q:ζ Value->qa8->Prop}(W:A.handled=ψ)(O:ItB b s.heap it l i)(hl:CoB b s.heap l J3)(Y:J3[i]?=ψ)(U:∀h',Heap.ExtBut it s.heap h'->Q ψ {s with heap:=h'}):wpAny (model prog w) A (qz5 (.ref it)) Q E s:=by
 cases b with
 |true=>exact zb2 W O hl Y U
 |false=>exact za1 W O hl Y U
theorem DL{l:J4}{x:Value}{Q:ζ Value->qa8->Prop}(O:ItB b s.heap it l i)(hl:CoB b s.heap l J3)(W:J3[i]?=ς x)(U:∀h',ItB b h' it l (i+1)->qg5 it s.heap h'->Q (ς x) {s with heap:=h'}):wpAny (model prog w) A (qz5 (.ref it)) Q E s:=by
 cases b with
 |true=>exact za0 O hl W U
 |false=>exact qy7 O hl W U
theorem DM{l:J4}(hl:CoB b s.heap l J3)(O:∀h',ItB b h' s.heap.objs.size l 0->(∀b o,s.heap.get? b=ς o->h'.get? b=ς o)->Q (.ref s.heap.objs.size) {s with heap:=h'}):wpAny (model prog w) A (pyIter (.ref l)) Q E s:=by
 cases b with
 |true=>exact wpAny_pyIter_list hl (O _ ⟨_,qc0 _ rfl,rfl,rfl⟩ λ_ _ e=>gP _ e)
 |false=>exact qr6 hl (O _ ⟨_,qc0 _ rfl,rfl,rfl⟩ λ_ _ e=>gP _ e)
end
variable{items:Array Value}{ps:η (Key×Value)}
section
variable{prog:qe5}{w:J5}{A:ql0}
noncomputable def b8(J1:η (Key×Value)):η (Key×Value)->η (Key×Value)
 |[]=>J1
 |p::ps=>b8 (stored J1 p.1 p.2) ps
structure PairsAt(prog:qe5)(w:J5)(h:Heap)(it D:J4)(items:Array Value)(ps:List (Key×Value)):Prop where
 len:items.size=ps.length
 at_:∀(j:Nat)(p:Key×Value),ps[j]?=ς p->∃t key o n,items[j]?=ς (.ref t)/\t≠it/\t≠D/\(ao prog w).is p.1 key=θ/\h.get? t=ς o/\o.cls=.type "tuple"/\o.data=.seq #[key,p.2] n
theorem PairsAt.keep{h:Heap}{it:J4}(P:PairsAt prog w h it D items ps)(k:∀b o,b≠it->b≠D->h.get? b=ς o->h'.get? b=ς o):PairsAt prog w h' it D items ps:=⟨P.len,λj p hp=>by have⟨t,O,o,n,h1,h2,U,h4,Y,W,Z⟩:=P.at_ j p hp;exact⟨t,O,o,n,h1,h2,U,h4,k t o h2 U Y,W,Z⟩⟩
theorem uq {b:Bool} {l it:J4} {O:Value} (hlD:l≠D) (hli:l≠it) (hiD:it≠D) :
  ∀(k i:Nat)(A:ql0)(s:qa8)(J1:η (Key×Value))(R:Result->qa8->Prop),A.handled=ψ->ps.length-i=k->i<=ps.length->ItB b s.heap it l i->CoB b s.heap l items->PairsAt prog w s.heap it D items ps->s.heap.DictOf (ao prog w) D J1→
   J1.length+(ps.length-i)<=qa5→
   (∀h' tk,h'.DictOf (ao prog w) D (b8 J1 (ps.drop i))->(∀b o,b≠it->b≠D->s.heap.get? b=ς o->h'.get? b=ς o)->R (.ok (.ret O)) {s with heap:=h',toks:=tk})→
   qv1 (model prog w) A (.builtin "dict.update.loop" ⟨[.ref D,.ref it,qv8 i,O],[]⟩) R s:=by
 intro k;induction k with
 |zero=>
  intro i A s J1 R hh hk hi Z hl hP hD hz hR;have hin:i=ps.length:=by lia
  subst hin;refine qv3 c6 ?_;rw[qp0 bc _];unfold qj2.«dict.update.loop»;show wpAny _ _ (qz5 (.ref _) >>= _) _ _ _;refine qk0 (qM hh Z hl (by rw[<- hP.len];simp) λh' eb=>?_);refine wB (qa6 (qa6 (hR h' s.toks ?_ λb o hb _ e=>eb b o hb e)));rw[qu1];exact hD.extBut eb (qj7 hiD)
 |succ k ih=>
  intro i A s J1 R hh hk hi Z hl hP hD hz hR;have hlt:i<ps.length:=by lia
  have⟨t,key,o,n,h1,h2,h3,h4,h5,h6,h7⟩:=hP.at_ i ps[i] (by simp[hlt]);refine qv3 c6 ?_;rw[qp0 bc _];unfold qj2.«dict.update.loop»;show wpAny _ _ (qz5 (.ref _) >>= _) _ _ _;refine wB (DL Z hl h1 λh' hit' sb=>?_);have h5':h'.get? t=ς o:=(sb.2 t h2).trans h5;have hD':h'.DictOf (ao prog w) D J1:=hD.sameBut sb (qj7 hiD);show wpAny _ _ (qo9 [qc3 t] _ >>= _) _ _ _;refine wB (qm8 (wB (wpAny_tryCatch ?_)));unfold qj2.Dict.pairItems;refine wB (zb5 (T:="tuple") ⟨o,h5',h6⟩ ?_);rw[if_pos Ω];refine wB (qx3 h5' h7 ?_);refine qa6 ?_;show wpAny _ _ (qo9 [key,ps[i].2] (dictSet D key ps[i].2)) _ _ _;refine qm8 (wpAny_dictSet_pairs (hsz:=by lia) h4 hD' λW hD'' sb'=>?_);refine qa6 ⟨qu7 bc _,?_⟩
  have kp:∀b o,b≠it->b≠D->s.heap.get? b=ς o->W.get? b=ς o:=λb o hb U e=>by rw[sb'.2 b U,sb.2 b hb];exact e
  have hl':CoB b W l items:=by cases b<;>(have⟨ol,e1,e2⟩:=hl;exact⟨ol,kp l ol hli hlD e1,e2⟩)
  have Y:ItB b W it l (i+1):=hit'.at λo e=>by rw[sb'.2 it hiD];exact e
  refine ih (i+1) _ _ (stored J1 ps[i].1 ps[i].2) R hh Θ Θ Y hl' (hP.keep kp) hD'' ?_ λh3 tk hD3 kp3=>hR h3 tk ?_ λb o hb U e=>kp3 b o hb U (kp b o hb U e)
  .have:=stored_length_le J1 ps[i].1 ps[i].2;lia
  .have:ps.drop i=ps[i]::ps.drop (i+1):=qx2 hlt;rw[this];exact hD3
variable{E:Value->qa8->Prop}{s:qa8}{a:J4}{J3:Array Value}{c:Nat}{sl:Array (ζ Value)}
theorem jb{b:Bool}{ps:η (Key×Value)}(hx:s.heap.get? a=ς {cls:=.type (tyB b),dict:=ψ,data:=.seq J3 c,slots:=sl})(hh:A.handled=ψ)(hl:J3.size=ps.length)(hz:ps.length<=qa5)
 (hp:∀(j:Nat)(p:Key×Value),ps[j]?=ς p->∃t W o n,J3[j]?=ς (.ref t)/\(ao prog w).is p.1 W=θ/\s.heap.get? t=ς o/\o.cls=.type "tuple"/\o.data=.seq #[W,p.2] n)
 (hQ:∀h' tk,h'.DictOf (ao prog w) s.heap.objs.size (b8 [] ps)->(∀b ob,s.heap.get? b=ς ob->h'.get? b=ς ob)->Q (.ref s.heap.objs.size) {s with heap:=h',toks:=tk}) :
  wpAny (model prog w) A (call (.type "dict") [.ref a]) Q E s:=by
 refine callType_codes (Q₁:=λobj Z=>obj=.ref s.heap.objs.size/\Z={s with heap:=s.heap.push {cls:=.type "dict",data:=.dict #[]}}) F.kt_called_dict (F.kt_typeCall_dict_1 _) F.entry_dict_init (kt_code_dict_new _ ⟨rfl,rfl⟩) ?_;rintro obj Z ⟨rfl,rfl⟩;have O:(s.heap.push {cls:=.type "dict",data:=.dict #[]}).DictOf (ao prog w) s.heap.objs.size []:=Heap.DictOf.new s.heap;have hx1:(s.heap.push {cls:=.type "dict",data:=.dict #[]}).get? a=ς {cls:=.type (tyB b),dict:=ψ,data:=.seq J3 c,slots:=sl}:=gP _ hx;refine⟨O.typeIs,F.args_dict_init_2 _ _,?_⟩;unfold qj2.«dict.__init__»;refine wB ?_;unfold qj2.Dict.selfAndRest;refine wB (qt2 O.typeIs ?_);show wpAny _ _ (pure (s.heap.objs.size,[qc3 a])) _ _ _;refine qa6 ?_;show wpAny _ _ (qz0 "dict.__init__" s.heap.objs.size (.ref a) [] .none) _ _ _;unfold qz0;refine wB (zb5 (T:=tyB b) ⟨_,hx1,rfl⟩ ?_);rw[if_pos (by cases b<;>decide)];refine wB (qL hx1 hh λh' tk kp=>?_);rw[if_pos (by rfl)];refine wB (wpAny_rule ?_);have hx2:=kp _ _ hx1;have hc2:CoB b h' a J3:=by cases b<;>exact⟨_,hx2,rfl,_,rfl⟩
 refine wB (DM hc2 λh'' hit U=>?_);refine qa6 ⟨qu7 bc _,?_⟩;have ha:a<s.heap.objs.size:=qb4 hx;have⟨oD,esD,epD,eD,restD⟩:=O;have Y:s.heap.objs.size<h'.objs.size:=qb4 (kp _ _ eD);refine uq (b:=b) (l:=a) (it:=h'.objs.size) (D:=s.heap.objs.size) (items:=J3) (ps:=ps) (qc5 ha) (qc5 (ql3 ha Y)) (qj7 (qc5 Y)) ps.length 0 _ _ [] _ hh Ξ (qg4 _) hit (by cases b<;>exact⟨_,U _ _ hx2,rfl,_,rfl⟩) ⟨hl,λj p hj=>?_⟩ ⟨oD,esD,epD,U _ _ (kp _ _ eD),restD⟩ ‹hz› λh3 tk3 hD3 kp3=>⟨rfl,?_⟩
 .have⟨t,W,o,n,h1,h2,h3,h4,h5⟩:=hp j p hj;have ht:=qb4 h3;exact⟨t,W,o,n,h1,qc5 (ql3 ht Y),qc5 ht,h2,U _ _ (kp _ _ (gP _ h3)),h4,h5⟩
 .refine hQ h3 tk3 ‹hD3› λb ob e=>kp3 b ob (qc5 (ql3 (qb4 e) Y)) (qc5 (qb4 e)) (U _ _ (kp _ _ (qz9 _ e)))
end
def aV(J1:η (Key×V)):η (Key×V)->η (Key×V)
 |[]=>J1
 |p::ps=>aV (aw J1 p.1 p.2) ps
theorem KV.all:∀{ps:η (Key×V)}{O:η (Key×Value)}{J1:η (Key×V)}{vs:η (Key×Value)},KV ps O->KV J1 vs->KV (aV J1 ps) (b8 vs O)
 |[],[],_,_,_,r=>r
 |[],_::_,_,_,h,_=>by cases h
 |_::_,[],_,_,h,_=>by cases h
 |p::ps,q::O,J1,vs,h,r=>by
  cases h with
  |cons hp U=>have⟨e,W⟩:=hp;have:=KV.all U (r.put p.1 W);show KV (aV (aw J1 p.1 p.2) ps) (b8 (stored vs q.1 q.2) O);rw[<- e];exact this
theorem dR:∀(ps J1:η (Key×V)),(aV J1 ps).length<=J1.length+ps.length
 |[],J1=>by simp[aV]
 |p::ps,J1=>by have h1:=dR ps (aw J1 p.1 p.2);have h2:=cS J1 p.1 p.2;rwa[aV,qc2];lia
section
variable{X:Cx}
def DN(K:xA9):η V->Hp->VK->Prop:=λxs H Q=>∃(a:J4)(vs:η V)(ps:η (Key×V)),xs=[.ref a]/\(∃b,SqB b K H a vs)/\vs.length=ps.length∧(∀(j:Nat)(p:Key×V),ps[j]?=ς p->∃t,vs[j]?=ς (.ref t)/\SqT K H t [kV p.1,p.2])/\∀p,H p=ψ->Q (.ref p) (upd H p (.dK (aV [] ps)))
theorem ny(hc:X.calm=θ):bR X (.type "dict") (DN X.K):=by
 intro J0 s σ H xs us Q I r h;have⟨a,vs,ps,rfl,⟨b,hq⟩,hl,hp,q⟩:=h;have⟨u,rfl,rx⟩:=gZ r;cases rx
 have hs:∃J3:η Value,Vals vs J3/\(∃n sl,s.heap.get? a=ς {cls:=.type (tyB b),dict:=ψ,data:=.seq J3.toArray n,slots:=sl})/\vs.length<=qa5:=by
  cases b with
  |true=>have⟨J3,rv,⟨⟨cls,dd,data,sl⟩,n,ho,h1,h2,Z⟩,hz⟩:=I.list hq;simp only at h1 h2 Z;subst h1 h2 Z;exact⟨J3,rv,⟨n,sl,ho⟩,hz⟩
  |false=>have⟨J3,rv,⟨⟨⟨cls,dd,data,sl⟩,ho,h1,n,h2⟩,Z⟩,hz⟩:=I.tup hq;have Z:=Z _ ho;simp only at h1 h2 Z;subst h1 h2 Z;exact⟨J3,rv,⟨n,sl,ho⟩,hz⟩
 have⟨J3,rv,⟨n,sl,ho⟩,hz⟩:=hs
 -- the values of the pairs
 have ex:∀(j:Nat)(p:Key×V),ps[j]?=ς p->∃t O u n o,J3[j]?=ς (.ref t)/\RelV (kV p.1) O/\RelV p.2 u/\s.heap.get? t=ς o/\o.cls=.type "tuple"/\o.data=.seq #[O,u] n:=λj p W=>by have⟨t,ht,hT⟩:=hp j p W;have⟨u0,hu0,ru0⟩:=rv.get ht;obtain rfl:u0=qc3 t:=ru0;have⟨ws,rws,⟨o,eo,ec,n,ed⟩,_⟩:=I.tuple hT;have⟨x,y,rfl,rx,ry⟩:=yO rws;exact⟨t,x,y,n,o,hu0,rx,ry,eo,ec,ed⟩
 have exq:∃U:η (Key×Value),KV ps U/\∀(j:Nat)(p:Key×Value),U[j]?=ς p->∃t O o n,J3[j]?=ς (.ref t)/\(ao X.prog X.w).is p.1 O=θ/\s.heap.get? t=ς o/\o.cls=.type "tuple"/\o.data=.seq #[O,p.2] n:=by
  have O:∀ (ps:η (Key×V)) (J3:η Value),(∀ (j:Nat) (p:Key×V),ps[j]?=ς p->∃ t O u n o,J3[j]?=ς (.ref t)/\RelV (kV p.1) O/\RelV p.2 u/\s.heap.get? t=ς o/\o.cls=.type "tuple"/\o.data=.seq #[O,u] n)→
      ∃U:η (Key×Value),KV ps U/\∀(j:Nat)(p:Key×Value),U[j]?=ς p->∃t O o n,J3[j]?=ς (.ref t)/\(ao X.prog X.w).is p.1 O=θ/\s.heap.get? t=ς o/\o.cls=.type "tuple"/\o.data=.seq #[O,p.2] n:=λps=>by
   induction ps with
   |nil=>exact λJ3 _=>⟨[],.nil,λj p h=>by simp at h⟩
   |cons p ps ih=>
    intro J3 h;have⟨t,k,u,n,o,e1,e2,e3,e4,e5,e6⟩:=h 0 p rfl;cases J3 with
    |nil=>simp at e1
    |cons v J3=>
     have⟨U,r1,r2⟩:=ih J3 λj p W=>h (j+1) p ‹W›
     refine⟨(p.1,u)::U,.cons ⟨rfl,e3⟩ r1,λj q W=>?_⟩;cases j with
     |zero=>simp at W;subst W;exact⟨t,k,o,n,‹e1›,hJ e2,e4,e5,e6⟩
     |succ j=>simpa using r2 j q ‹W›
  exact O ps J3 ex
 have⟨U,rq,hq2⟩:=exq;have Y:J3.length=U.length:=by rw[<- rv.length,hl];exact rq.length
 have hzz:U.length<=qa5:=by rw[<- Y,<- rv.length];exact hz
 refine jb (b:=b) ho (I.ok.hd hc) ‹Y› hzz (λj p W=>by have⟨t,O,o,n,e1,e2⟩:=hq2 j p W;exact⟨t,O,o,n,‹e1›,e2⟩) λh' tk hD kp=>⟨.ref s.heap.objs.size,_,I.laid (a:=s.heap.objs.size) (o:=.dK (aV [] ps)) (t':=tk) kp (qs5 _) ?_,rfl,q _ (I.hok.fresh (qs5 _))⟩
 refine mV ?_ (beq_eq_false_iff_ne.mpr (qj7 (qc5 I.big))) (KV.all rq .nil) hD;have:=dR ps [];have:=rq.length;simp at*
 lia
end
structure EntG(kv:List (Value×Value))(lo:J4)(h:Heap)(as:List J4):Prop where
 rise:as.Pairwise (· < ·)
 above:∀a∈as,lo<a
 pairs:∀(j:Nat)(a:J4),as[j]?=ς a->∃p,kv[j]?=ς p/\h.get? a=ς {cls:=.type "tuple",data:=.seq #[p.1,p.2]}
theorem EntG.there{lo:J4}{h:Heap}{as:η J4}(g:EntG kv lo h as)(O:a∈as):a<h.objs.size:=by have⟨j,U⟩:=qt5.mp O;have⟨_,_,e⟩:=g.pairs j a U;exact qb4 e
theorem ItmS.keep{h:Heap}{it d S:J4}{i n:Nat}(x:ItmS h it d i n ep)(U:∀b o,b≠S->h.get? b=ς o->h'.get? b=ς o)(W:∃o,h'.get? S=ς o)(hI:it≠S):ItmS h' it d i n ep:=by
 have⟨Z,f,ok,ov,O,ho⟩:=x;refine⟨Z,f,ok,ov,U _ _ hI O,ho.imp_right λ⟨a,e,Y,oa,h1⟩=>⟨a,e,Y,?_⟩⟩;by_cases hz:a=S
 .subst hz;exact W
 .exact⟨oa,U a oa hz h1⟩
section
variable{prog:qe5}{w:J5}{A:ql0}{E:Value->qa8->Prop}{s:qa8}{R:Result->qa8->Prop}{kv:η (Value×Value)}{ep:Nat}
theorem qN {S I d:J4} (nh:A.handled=ψ) (hSI:S<I) (hSd:d≠S) (hId:d≠I) (hn:kv.length<=qa5) (res:Value) {h1:Heap}
  (hR:∀h' tk O c as,(∀b o,b≠S->b≠I->h1.get? b=ς o->h'.get? b=ς o)->h'.get? S=ς {cls:=.type "list",dict:=ψ,data:=.seq O c,slots:=#[]}->as.length=kv.length->EntG kv I h' as→
   O.toList=as.map qc3->R (.ok (.ret res)) {s with heap:=h',toks:=tk}) :
  ∀(k i:Nat)(h:Heap)(tk c:Nat)(O:Array Value)(as:η J4),kv.length-i=k->i<=kv.length->ItmS h I d i kv.length ep->EntB h d kv ep->(∀b o,b≠S->b≠I->h1.get? b=ς o->h.get? b=ς o)→
   h.get? S=ς {cls:=.type "list",dict:=ψ,data:=.seq O c,slots:=#[]}->O.toList=as.map qc3->as.length=i->EntG kv I h as->I<h.objs.size→
   qv1 (model prog w) A (.builtin "list.extend.loop" ⟨[.ref S,.ref I,res],[]⟩) R {s with heap:=h,toks:=tk}:=by
 have hne:S≠I:=qc5 hSI;intro k;induction k with
 |zero=>
  intro i h tk c O as hk hi hst hD U hS W hal Z hIs;have hin:i=kv.length:=by lia
  refine qv3 PySem.F.entry_extend_loop ?_;rw[qp0 PySem.F.plain_extend_loop _];show wpAny _ A.in1 (qz5 (.ref I) >>= _) _ _ _;refine wB (uj (s:={s with heap:=h,toks:=tk}) (A:=A.in1) nh hst hD hin λh' he=>?_);refine qa6 (hR h' tk O c as (λb o h1 h2 e=>he b o h2 (U b o h1 h2 e)) (he S _ hne hS) Θ ⟨Z.rise,Z.above,λj a hj=>?_⟩ W);have⟨p,e1,e2⟩:=Z.pairs j a hj;exact⟨p,e1,he a _ (qi6 (Z.above a (qa4 hj))) e2⟩
 |succ k ih=>
  intro i h tk c O as hk hi hst hD U hS W hal Z hIs;have hlt:i<kv.length:=by lia
  obtain⟨⟨ky,x⟩,hx⟩:∃p,kv[i]?=ς p:=⟨kv[i],gQ hlt⟩;have hsz:O.size=i:=by rw[<- qq2,W,qa2,hal]
  refine qv3 PySem.F.entry_extend_loop ?_;rw[qp0 PySem.F.plain_extend_loop _];show wpAny _ A.in1 (qz5 (.ref I) >>= _) _ _ _;refine wB (qI (s:={s with heap:=h,toks:=tk}) hst hD hx λh' hst' ht hz Y=>?_);dsimp only at ht hz Y ⊢;have hS':=Y S _ hne hS;have up:∀b o,b≠S->h'.get? b=ς o->(h'.update S (qk4 (·.push (qc3 h.objs.size)))).get? b=ς o:=λb o hb e=>(qi1 _ _ (qj7 hb)).trans e
  have hSl:S<h.objs.size:=qb4 hS;show wpAny _ A.in1 (zg1 S (·.push (qc3 h.objs.size)) >>= _) _ _ _
  refine wB (qv4 hS' rfl (qa6 ⟨qu7 PySem.F.plain_extend_loop _,ih (i+1) _ tk _ (O.push (qc3 h.objs.size)) (as++[h.objs.size]) Θ hlt (hst'.keep up ⟨_,qf7 _ hS' rfl⟩ (qj7 hne)) (hD.upTo λo e=>up d o hSd (Y d o hId e))
   (λb o h1 h2 e=>up b o h1 (Y b o h2 (U b o h1 h2 e))) (qf7 _ hS' rfl) (by rw[Array.toList_push,W,qd3];rfl) (by rw[qc4,hal];rfl) ⟨?_,?_,?_⟩ ?_⟩) (by rw[hsz];lia) (by show(O.push (qc3 h.objs.size)).size<=qa5+1;rw[Array.size_push,hsz];lia))
  .refine List.pairwise_append.mpr ⟨Z.rise,List.pairwise_singleton _ _,λa ha b hb=>?_⟩;rw[qw3.mp hb];exact Z.there ha
  .intro a ha;rcases qg9.mp ha with ha|ha
   .exact Z.above a ha
   .rw[qw3.mp ha];exact hIs
  .intro j b hj;rcases qy3 j as.length with h1|h1|h1
   .rw[gL h1]at hj;have⟨p,e1,e2⟩:=Z.pairs j b hj;have hb:=Z.above b (qa4 hj);exact⟨p,e1,up b _ (qi6 (ql3 hSI hb)) (Y b _ (qi6 hb) e2)⟩
   .subst h1;have hb:h.objs.size=b:=‹hj›
    subst hb;exact⟨_,by rw[hal];exact hx,up _ _ (qi6 hSl) ht⟩
   .have hnone:(as++[h.objs.size])[j]?=ψ:=qd6 (by rw[qc4,qi7];lia);rw[hnone]at hj;cases hj
  .have e:(h'.update S (qk4 (·.push (qc3 h.objs.size)))).get? h.objs.size=_:=up _ _ (qi6 hSl) ht;exact ql3 hIs (qb4 e)
variable{r d:J4}
theorem qO(nh:A.handled=ψ)(hv:s.heap.IsItemsView r d)(hm:EntB s.heap d kv ep)(hn:kv.length<=qa5)
 (hQ:∀h' tk Z c as,(∀b o,s.heap.get? b=ς o->h'.get? b=ς o)->h'.get? s.heap.objs.size=ς {cls:=.type "list",dict:=ψ,data:=.seq Z c,slots:=#[]}->as.length=kv.length->EntG kv s.heap.objs.size h' as→
 Z.toList=as.map qc3->Q (.ref s.heap.objs.size) {s with heap:=h',toks:=tk}) :
  wpAny (model prog w) A (call (.type "list") [.ref r]) Q E s:=by
 refine callType_codes (Q₁:=λobj s₁=>obj=.ref s.heap.objs.size/\s₁={s with heap:=s.heap.push {cls:=.type "list",data:=.seq #[]}}) PySem.F.called_list (PySem.F.typeCall_list_1 _) PySem.F.entry_list_init
  (code_list_new _ ⟨rfl,rfl⟩) λobj s₁ h₁=>?_
 have⟨rfl,rfl⟩:=h₁;have hS:(s.heap.push {cls:=.type "list",data:=.seq #[]}).get? s.heap.objs.size=ς {cls:=.type "list",data:=.seq #[]}:=qc0 _ rfl;have hr:r<s.heap.objs.size:=let ⟨_,ho,_⟩:=hv;qb4 ho;have hd:d<s.heap.objs.size:=hm.lt;have hSr:=qi6 hr;have hSd:d≠s.heap.objs.size:=qc5 hd;refine⟨⟨_,hS,rfl⟩,PySem.F.args_list_init_2 _ _,?_⟩;generalize hh:s.heap.push {cls:=.type "list",data:=.seq #[]}=h0 at hS;have kp:∀b o,s.heap.get? b=ς o->h0.get? b=ς o:=λb o e=>by rw[<- hh];exact gP _ e
 have hsz:h0.objs.size=s.heap.objs.size+1:=by rw[<- hh,qn5]
 generalize hSe:s.heap.objs.size=S at*
 show wpAny _ _ (do let old <- za5 (.ref S);qj2.List.listUpdate (.ref S) (λ_=>#[]);letGo old.toList.reverse;qo3 (.ref S) (.ref r) .none) _ _ _;refine wB ?_;unfold za5;refine wB (qx3 hS rfl (qa6 ?_));show wpAny _ _ (zg1 S (λ_=>#[]) >>= λ_=>letGo (#[]:Array Value).toList.reverse >>= λ_=>qo3 (.ref S) (.ref r) .none) _ _ _;refine wB (qv4 hS rfl ?_);have hS2:=qf7 (qk4 (λ_=>(#[]:Array Value))) hS rfl;have oth:∀b o,b≠S->h0.get? b=ς o->(h0.update S (qk4 (λ_=>(#[]:Array Value)))).get? b=ς o:=λb o hb e=>(qi1 _ _ (qj7 hb)).trans e
 generalize h0.update S (qk4 (λ_=>(#[]:Array Value)))=h2 at hS2 oth;refine wB (wpAny_letGo ?_);have hv2:h2.IsItemsView r d:=let ⟨o,ho,x⟩:=hv;⟨o,oth r o (qj7 hSr) (kp r o ho),x⟩;have hm2:EntB h2 d kv ep:=hm.upTo λo e=>oth d o hSd (kp d o e)
 have kp2:∀b o,s.heap.get? b=ς o->b≠S->h2.get? b=ς o:=λb o e hb=>oth b o hb (kp b o e)
 unfold qo3;refine wB (zb5 (T:="dict_items") (let ⟨o,ho,hc,_⟩:=hv2;⟨o,ho,hc⟩) ?_);have q1:qy4 (.ref S) (.ref r)=ξ:=by simp[qy4,hSr]
 have q2:(qo5 "dict_items"==qo5 "list")=ξ:=by decide
 have q3:(qo5 "dict_items"==qo5 "tuple")=ξ:=by decide
 rwa[q1,q2,q3,Bool.or_false,qg6,if_false];refine wB (qH hv2 hm2 λh3 it3 U lt3=>?_);dsimp only at it3 U lt3 ⊢;have O:S<h2.objs.size:=qb4 hS2;have hS3:=U _ _ hS2
 have key:∀ (h:Heap) (c1 tk:Nat),(∀ b o,b≠S->h3.get? b=ς o->h.get? b=ς o)->h.get? S=ς {cls:=.type "list",data:=.seq #[] c1}->ItmS h h2.objs.size d 0 kv.length ep->h2.objs.size<h.objs.size→
     qv1 (model prog w) A.in1 (.builtin "list.extend.loop" ⟨[.ref S,.ref h2.objs.size,.none],[]⟩) (wants (λr Y=>r=qg8/\Q (qc3 S) Y) E) {s with heap:=h,toks:=tk}:=by
  intro h c1 tk hk hS1 hit hlt
  refine qN (A:=A.in1) (R:=wants (λr Y=>r=qg8/\Q (qc3 S) Y) E) (kv:=kv) (ep:=ep) (s:=s) (h1:=s.heap) nh O hSd (qc5 (ql3 Θ O)) hn .none (λh' tk' Z c as hk' hS' hl hG hacc=>⟨rfl,hQ h' tk' Z c as (λb o e=>hk' b o (qc5 (by rw[<- hSe];exact qb4 e)) (qc5 (ql3 (by rw[<- hSe];exact qb4 e) O)) e) hS' hl ⟨hG.rise,λa ha=>ql3 O (hG.above a ha),hG.pairs⟩ hacc⟩)
   kv.length 0 h tk c1 #[] [] (Nat.sub_zero _) (qg4 _) hit (hm2.upTo λo e=>hk d o hSd (U d o e)) (λb o hb _ e=>hk b o hb (U b o (kp2 b o e hb))) hS1 rfl rfl ⟨qx8,(λ_ ha=>nomatch ha),(λj a hj=>by simp at hj)⟩ hlt
 refine wB (qm8 (PySem.W.kdx_hint (let ⟨o,ho,hc,_⟩:=hv2;⟨o,U r o ho,hc⟩) ?_));refine wpAny_ite_split (λ_=>?_) (λ_=>qa6 ⟨qu7 PySem.F.plain_extend_loop _,key _ _ _ (λb o _ e=>e) hS3 it3 lt3⟩);refine wB (wpAny_rule (wB ?_));show wpAny _ _ (zg1 S (·.push .none) >>= λ_=>zg1 S (·.pop)) _ _ _;refine wB (qv4 hS3 rfl ?_);have hS4:=qf7 (qk4 (·.push qg8)) hS3 rfl;refine qv4 (hz:=by seq_fits) hS4 rfl ?_;have hS5:=qf7 (qk4 (·.pop)) hS4 rfl;have hk5:∀b o,b≠S->h3.get? b=ς o->((h3.update S (qk4 (·.push qg8))).update S (qk4 (·.pop))).get? b=ς o:=λb o hb e=>(qi1 _ _ (qj7 hb)).trans ((qi1 _ _ (qj7 hb)).trans e)
 refine qa6 ⟨qu7 PySem.F.plain_extend_loop _,key _ _ _ hk5 hS5 (it3.keep hk5 ⟨_,hS5⟩ (qi6 O)) ?_⟩;have:∃o,h3.get? h2.objs.size=ς o:=let ⟨_,_,_,_,e,_⟩:=it3;⟨_,e⟩;have⟨o,ho⟩:=this;exact qb4 (hk5 _ o (qi6 O) ho)
end
section
variable{X:Cx}{J0:η (J4×Obj)}{σ:St}{H H':Hp}{s:qa8}{h':Heap}
theorem Inv.more (I:Inv X J0 σ H s) (k:∀ b u,s.heap.get? b=ς u->h'.get? b=ς u) (hs:Same H H') (O:∀ b,b<s.heap.objs.size->H b=ψ->H' b=ψ) (new:∀ b o,H' b=ς o->H b=ψ->ObjOk X.prog X.w H' h' b o) :
  Inv X J0 σ H' {s with heap:=h',toks:=t'}:=
 I.un ⟨λb u q _ _ _=>k b u q,λb u q _ _ _=>⟨u.slots,k b u q⟩,λb u q n _=>O b (qb4 q) n,λb u q _=>⟨u,k b u q⟩,λb xs q=>hs _ _ q,λb u xs q=>hs _ _ q,λb ps q=>⟨#[],by rw[hs _ _ q];simp⟩,λb U q=>hs _ _ q⟩ λb o e=>by
  cases q:H b with
  |none=>exact new b o e q
  |some u=>have:=hs b u q;rw[e]at this;cases this;exact(I.hok b o q).stay (λc v _ q=>k c v q) (λc q=>hs _ _ q) (λc xs q=>hs _ _ q) λc ob xs q=>hs _ _ q
def eQ(H:Hp):η J4->η (η V)->Hp
 |t::ts,p::ps=>upd (eQ H ts ps) t (.t p)
 |_,_=>H
theorem kF:∀{ts:η J4}{ps:η (η V)}{j:Nat}{t:J4}{p:η V},ts.Nodup->ts[j]?=ς t->ps[j]?=ς p->eQ H ts ps t=ς (.t p)
 |[],_,j,t,p,_,h,_=>by simp at h
 |t::ts,[],j,_,p,_,_,h=>by simp at h
 |t::ts,q::ps,0,_,_,_,h,h'=>by simp at h h';subst h h';exact af
 |t::ts,q::ps,j+1,x,p,O,h,h'=>by rwa[qd1]at h h';have O:=qc8.mp O;rwa[eQ];rw[ah λe=>O.1 (by rw[<- e];exact qa4 h)];exact kF O.2 h h'
theorem cB{b:J4}:∀{ts:η J4}{ps:η (η V)},b∉ts->eQ H ts ps b=H b
 |[],_,_=>rfl
 |t::ts,[],_=>rfl
 |t::ts,q::ps,h=>by rwa[qb9,not_or]at h;rwa[eQ];rw[ah h.1];exact cB h.2
theorem jJ:∀{ts:η J4}{ps:η (η V)},(∀t∈ts,H t=ψ)->Same H (eQ H ts ps):=λ{ts ps} h b o e=>by rw[cB λz=>by rw[h b z]at e;cases e];exact e
end
noncomputable def vwI(v d:J4):HO:=.ext λh=>h.IsItemsView v d
section
variable{X:Cx}
def rItm:V->η V->Hp->VK->Prop:=λx vs H Q=>∃d J1,x=.ref d/\vs=[]/\Rd H d (.dT J1)/\∀v,H v=ψ->Q (.ref v) (upd H v (vwI v d))
theorem oT {w:J5} {h:Heap} {J1:η (η Key×V)} (x:ObjOk P w H h a (.dT J1)):J1.length<=qa5/\(a==qk1)=ξ/\∃ (bs:η J4) (us:η Value) (ep:Nat),EntB h a (List.zip (bs.map .ref) us) ep/\bs.length=J1.length/\us.length=J1.length∧
  (∀(j:Nat)(p:η Key×V),J1[j]?=ς p->∃b u,bs[j]?=ς b/\us[j]?=ς u/\H b=ς (.t (p.1.map kV))/\RelV p.2 u):=by
 have⟨z,y,xs,r,o,es,ep,h1,h2,W,h4,Y⟩:=x;refine⟨z,y,xs.map (·.2.1),xs.map (·.2.2),ep,⟨o,es,h1,h2,W,?_⟩,by rw[qa2,<- cA r],by rw[qa2,<- cA r],λj p hp=>?_⟩
 .rw[h4,qd2,qd2,List.zip_map',];rfl
 .have⟨q,O,_,hb,U⟩:=jI r hp;exact⟨q.2.1,q.2.2,by rw[qa9,O];rfl,by rw[qa9,O];rfl,hb,U⟩
theorem ur:MtR X "dict.items" rItm:=by intro J0 s σ H x vs v us Q I W Z h;have⟨d,J1,rfl,rfl,U,q⟩:=h;cases W;cases Z;have⟨z,y,bs,ws,ep,en,_⟩:=oT (zh I U);refine qG y en ?_;refine⟨.ref s.heap.objs.size,_,I.laid (a:=s.heap.objs.size) (o:=vwI s.heap.objs.size d) (t':=s.toks) (λb o e=>gP _ e) (nL _) ?_,rfl,q _ (I.hok.fresh (nL _))⟩;exact⟨⟨_,qc0 _ rfl,rfl,rfl⟩,⟨_,qc0 _ rfl⟩,λh1 h2 O k=>by have⟨o,Y,x⟩:=O;exact⟨o,k o Y,x⟩⟩
def rIls:η V->Hp->VK->Prop:=λxs H Q=>∃v d J1,xs=[.ref v]/\H v=ς (vwI v d)/\Rd H d (.dT J1)/\∀(bs ts:η J4)(l:J4),bs.length=J1.length->ts.length=J1.length->(∀(j:Nat)(b:J4)(p:η Key×V),bs[j]?=ς b->J1[j]?=ς p->H b=ς (.t (p.1.map kV)))→
 ts.Nodup->(∀t∈ts,H t=ψ)->H l=ψ->l∉ts->Q (.ref l) (upd (eQ H ts (qt6 (λb p=>[V.ref b,p.2]) bs J1)) l (.e (ts.map V.ref)))
theorem ut(hc:X.calm=θ):bR X (.type "list") rIls:=by
 intro J0 s σ H xs us Q I r h;have⟨v,d,J1,rfl,hv,hd,q⟩:=h;have⟨u,rfl,rx⟩:=gZ r;cases rx;have⟨z,y,bs,ws,ep,en,hl1,hl2,hp⟩:=oT (zh I hd);have hV:s.heap.IsItemsView v d:=(show ObjOk X.prog X.w H s.heap v (vwI v d)from I.hok v _ hv).1;have hkl:(List.zip (bs.map qc3) ws).length=J1.length:=by rw[List.length_zip,qa2,hl1,hl2,Nat.min_self]
 refine qO (I.ok.hd hc) hV en (by rw[hkl];exact z) λh' tk acc c as kp hD O hG W=>?_
 rw[hkl]at O;have hsz:=hG.above;have Z:as.Nodup:=hG.rise.imp λh=>qc5 h
 have hfr:∀t∈as,H t=ψ:=λt ht=>I.hok.fresh (qq7 (hG.above t ht))
 have hl0:H s.heap.objs.size=ψ:=I.hok.fresh (nL _);have Y:s.heap.objs.size∉as:=λz=>qm7 _ (hG.above _ z)
 have hS1:Same H (eQ H as (qt6 (λb p=>[V.ref b,p.2]) bs J1)):=jJ hfr;have U:eQ H as (qt6 (λb p=>[V.ref b,p.2]) bs J1) s.heap.objs.size=ψ:=by rw[cB Y];exact hl0
 refine⟨.ref s.heap.objs.size,_,I.more (t':=tk) (H':=upd (eQ H as (qt6 (λb p=>[V.ref b,p.2]) bs J1)) s.heap.objs.size (.e (as.map V.ref))) kp (hS1.trans (Same.upd U)) (λb hb n=>?_) (λb o e n=>?_),rfl,q bs as _ hl1 O (λj b p h1 h2=>?_) Z hfr hl0 Y⟩
 .rw[ah (qc5 hb),cB λz=>absurd (hG.above b z) (qn6.mpr (qq7 hb))];exact n
 .by_cases hb:b=s.heap.objs.size
  .subst hb;rw[af]at e;cases e;refine⟨by rw[qa2,O];exact z,acc.toList,c,?_,by rw[Array.toArray_toList];exact hD⟩;rw[W];clear W hG O hsz Z hfr Y hS1 U;induction as with
   |nil=>exact .nil
   |cons b bs ih=>exact .cons rfl ih
  .rw[ah hb]at e;by_cases hm:b∈as
   .have⟨j,hj⟩:=qt5.mp hm;have⟨p,hp1,hp2⟩:=hG.pairs j b hj;have hjl:j<J1.length:=by rw[<- O];exact(gX hj).1
    have⟨b',u',e1,e2,e3,e4⟩:=hp j J1[j] (by simp[hjl])
    have hzw:(qt6 (λb p=>[V.ref b,p.2]) bs J1)[j]?=ς [V.ref b',J1[j].2]:=by rw[zc3,e1];simp[hjl]
    rw[kF Z hj hzw]at e;cases e
    have hzp:(List.zip (bs.map qc3) ws)[j]?=ς (.ref b',u'):=by rw[qx0];exact⟨by rw[qa9,e1];rfl,e2⟩
    rw[hzp]at hp1;cases hp1;exact⟨by show 2<=qa5;rw[qb7];lia,[.ref b',u'],.cons rfl (.cons e4 .nil),.of (n:=0) hp2 rfl rfl rfl⟩
   .rw[cB hm,n]at e;cases e
 .have⟨b',u',e1,_,e3,_⟩:=hp j p h2;rw[h1]at e1;cases e1;exact e3
def DO:V->η V->Hp->VK->Prop:=λx vs H Q=>∃d,x=.ref d/\vs=[]/\((∃J1,H d=ς (.dT J1))/\Q .non (upd H d (.dT []))\/(∃J1,H d=ς (.dK J1))/\Q .non (upd H d (.dK [])))
theorem xH:MtM X "dict.clear" DO:=by
 intro J0 s σ H x vs v us Q I rx rv h;have⟨d,rfl,rfl,h⟩:=h;cases rx;cases rv;rcases h with ⟨⟨J1,O⟩,q⟩|⟨⟨J1,O⟩,q⟩
 .have⟨z,y,xs,r,o,es,ep,h1,h2,U,h4,h5⟩:=I.hok d _ O
  have W:es.size<=qa5:=by have e1:=congrArg ql7 h4;have e2:=cA r;simp at e1;lia
  have Z:s.TypeIs (.ref d) "dict":=⟨o,h1,h2.1⟩;refine qj4 F.slot_dict_clear Z F.entry_dict_clear ?_ (F.args_dict_clear_1 _);unfold qj2.«dict.clear»;refine wB ?_;unfold qj2.Dict.noArgs;refine wB (qt2 Z ?_);show wpAny _ _ (pure d) _ _ s;refine qa6 (wB (qs9 h1 U (wB ?_)));unfold bearsInstanceDictMark;refine wB (wpAny_load h1 (qa6 (wB (wpAny_updateDictKeys (hz:=W) h1 U ?_))));have Y:=qf7 (Obj.mapDictKeys λ_=>#[]) h1 (Obj.isFreed_of_dict (Obj.data_mapDictKeys U _))
  have fin:EP X J0 σ Q .none {s with heap:=s.heap.update d (Obj.mapDictKeys λ_=>#[])}:=by refine⟨.non,_,gv (t':=s.toks) I (by rw[O];exact qk9) (qq3 ..) ⟨_,Y⟩ ?_,rfl,q⟩;exact⟨qg4 _,y,[],.nil,_,_,_,Y,h2.mapDictKeys _,Obj.data_mapDictKeys U _,rfl,qw9⟩
  split
  .exact wB (wpAny_letGo (qa6 ⟨.none,rfl,fin⟩))
  .exact wB (qa6 (qa6 ⟨.none,rfl,fin⟩))
 .exact wJ I O λs' I'=>⟨.non,_,I',rfl,q⟩
end
variable{J1:η (Key×V)}
section
variable{G:Gx}{X:Cx}{e o a:J8}{es:η J8}{pos spos apos cpos p tpos:Pos}{f fa fe fk:Fg}{m:Md}{i:Nat}{sc:J9}{x:Str}{F H:Hp}{ρ:Nat->J4}{ch:CH}{c:CV}{v:V}
def nz(ch:CH):CV->ζ (η (η Key×Dt))
 |.ref i=>match ch[i]? with
  |some (.dT l)=>(dats (l.map (·.2))).map λds=>(l.map (·.1)).zip ds
  |_=>ψ
 |.own _ (.dcT l)=>ς l
 |_=>ψ
omit x in
theorem xI{l:η (η Key×Dt)}(g:Gh G F H ρ ch)(r:RelC G F H ρ ch.length c v)(h:nz ch c=ς l):∃a J1,v=.ref a/\H a=ς (.dT J1)/\J1.map (·.1)=l.map (·.1)/\Reps G.K F (l.map (·.2)) (J1.map (·.2)):=by
 unfold nz at h;split at h
 .rename_i i;rcases h
  rename_i l' hl;have⟨ds,U,rfl⟩:=mS h;have⟨_,J1,h1,h2,O⟩:=g.ok i _ hl
  have W:(l'.map (·.1)).length=ds.length:=by have:=congrArg ql7 (cr U);simpa using this
  refine⟨_,J1,r.2,h1,?_,?_⟩
  .rw[h2,qu2 Θ]
  .rw[List.map_snd_zip Θ];exact aX U O
 .cases h;have⟨a,rfl,_,⟨b,J1,e,rfl,h1,h2,O⟩,_⟩:=r;exact⟨_,J1,rfl,h1,h2,O⟩
 .cases h
noncomputable def dS(l:η (η Key×Dt)):η Dt:=l.map λq=>.t [nv q.1,q.2]
def eIl(m:Md)(fa:Fg):Fg:=λδ ch=>(fa δ ch).bind λp=>(nz p.2 p.1).bind λl=>fin m p.2 (.e (dS l))
theorem lY:∀{ds:η Dt}{vs:η V},ds.length=vs.length->(∀(j:Nat)(d:Dt)(v:V),ds[j]?=ς d->vs[j]?=ς v->Rep K F d v)->Reps K F ds vs
 |[],[],_,_=>by simp[Reps]
 |[],_::_,h,_=>by cases h
 |_::_,[],h,_=>by cases h
 |d::ds,v::vs,h,q=>by rwa[Reps];exact⟨v,vs,rfl,q 0 d v rfl rfl,lY ‹h› λj d v h1 h2=>q (j+1) d v ‹h1› ‹h2›⟩
theorem BI (hK:X.K=G.K) (h:aI sc "list"=θ) (hc:X.calm=θ) (hm:X.mg "list"=ψ) (ha:GE G X o fa) (e1:aY X sc) (Y:qh8 o "items" X.env (eval o X.env)=eval o X.env) (hline:(apos.endLine==cpos.line)=θ) :
  GE G X (.Call (.Name "list" p) [.Call (.Attribute o "items" apos) [] [] cpos] [] pos) (eIl m fa):=
 PE.mono (dN h (ut hc) hm rfl (bp (j7 PySem.F.plainAttrs_dict PySem.F.slot_dict_items PySem.F.type_dict_items ur ha Y hline) cj rfl) e1 rfl rfl) λσ H Q hq1=>by
  have⟨Φ,δ,ch,F,ρ,c,ch',en,hf,k⟩:=hq1;have⟨q,h1,hf1⟩:=bS hf;have⟨l,h2,hf2⟩:=bS hf1;refine⟨Φ,δ,ch,F,ρ,_,_,en,h1,λv F1 H1 ρ1 a1 r1=>?_⟩;have⟨d,J1,rfl,hH,hk,hr⟩:=xI a1.gh r1.1 h2;have hlen:J1.length=l.length:=by have:=congrArg ql7 hk;simpa using this
  refine⟨.inr (.inr (.inl ⟨rfl,.inr ⟨_,hH⟩⟩)),d,J1,rfl,rfl,.inl hH,λx hx=>⟨x,d,J1,rfl,af,.inl ?_,λbs ts ls hb ht Z nd fr hl U=>?_⟩⟩
  .rw[ah (aE hH hx)];exact hH
  have k1:=(bL a1.gh hf2 (k.adv a1)).step (Step.made (o:=vwI x d) a1.gh.fh hx);have W:Same F1 (upd H1 x (vwI x d)):=a1.gh.fh.trans (Same.upd hx);generalize upd H1 x (vwI x d)=H2 at Z fr hl k1 W ⊢
  have hbn:∀b∈bs,∃vs,H2 b=ς (.t vs):=λb hm=>by
   have⟨j,hj⟩:=List.getElem?_of_mem hm;have U:j<J1.length:=by rw[<- hb];exact(gX hj).1
   exact⟨_,Z j b _ hj (gQ U)⟩
  have hb1:∀{b:J4},b∈bs->b∉ts:=λ{b} h1 h2=>by have⟨vs,e⟩:=hbn b h1;rw[fr b h2]at e;cases e
  let ps:=qt6 (λb (p:η Key×V)=>[V.ref b,p.2]) bs J1;have hpl:ps.length=ts.length:=by simp[ps,hb,ht]
  let F':Hp:=λb=>if b∈ts\/b∈bs then eQ H2 ts ps b else F1 b
  have fin:∀{b:J4},b∈ts\/b∈bs->F' b=eQ H2 ts ps b:=λh=>if_pos h
  have O:∀{b:J4},¬ (b∈ts\/b∈bs)->F' b=F1 b:=λh=>if_neg h
  have hs:=jJ (ps:=ps) fr
  have ff:Same F1 F':=λb o e=>by
   by_cases h:b∈ts\/b∈bs
   .rw[fin h];exact hs _ _ (W _ _ e)
   .rw[O h];exact e
  have fh':Same F' (eQ H2 ts ps):=λb o e=>by
   by_cases h:b∈ts\/b∈bs
   .rw[fin h]at e;exact e
   .rw[O h]at e;exact hs _ _ (W _ _ e)
  have st:Step F1 H2 F' (eQ H2 ts ps):=⟨hs,ff,fh',λb o e=>by
   by_cases h:b∈ts\/b∈bs
   .rcases h with h|h
    .exact .inr (.inl (fr b h))
    .exact .inr (.inr (hbn b h))
   .rw[O h]at e;exact .inl e⟩
  refine bT (k1.step st) fh' (lY (by simp[dS,ht,hlen]) λj y z h3 h4=>?_) (by rw[cB U];exact hl);unfold dS at h3;rw[qa9]at h3 h4;have⟨q,hq,rfl⟩:=mS h3;have⟨t,htt,rfl⟩:=mS h4;have hj:j<l.length:=(gX hq).1;obtain⟨p,hp⟩:∃p,J1[j]?=ς p:=⟨J1[j],gQ Θ⟩;obtain⟨b,hbj⟩:∃b,bs[j]?=ς b:=⟨bs[j],gQ Θ⟩
  have hpk:p.1=q.1:=by
   have e1:(J1.map (·.1))[j]?=ς p.1:=by rw[qa9,hp];rfl
   have e2:(l.map (·.1))[j]?=ς q.1:=by rw[qa9,hq];rfl
   rw[hk,e2]at e1;exact(qd5 e1).symm
  have⟨w,hw,rw'⟩:=hr.get (i:=j) (d:=q.2) (by rw[qa9,hq];rfl);have hwp:w=p.2:=by rw[qa9,hp]at hw;exact(qd5 hw).symm
  subst hwp;have hpj:ps[j]?=ς [V.ref b,p.2]:=by rwa[ps];rw[zc3,hbj,hp]
  rwa[Rep];refine⟨t,[V.ref b,p.2],rfl,SqT.of (by rw[fin (.inl (qa4 htt))];exact kF nd htt hpj),?_⟩;rwa[Reps];refine⟨_,_,rfl,uo ?_,_,_,rfl,rw'.same ff,rfl⟩;have hbm:=qa4 hbj;rw[fin (.inr hbm),cB (hb1 hbm),Z j b p hbj hp,hpk]
def qQ(fa fe:Fg):Fg:=λδ ch=>(fa δ ch).bind λp=>(fe δ p.2).bind λq=>match p.1 with
 |.ref i=>(bY p.2 i).bind λ_=>(bY q.2 i).bind λl=>(cu q.1).bind λj=>if 0<=j/\j<l.length/\l.length<=1000000 then(l[j.toNat]?).map λc=>(c,q.2.set i (.e (l.eraseIdx j.toNat)))else ψ
 |_=>ψ
theorem Paired.erase{α β:Type}{R:α->β->Prop}:∀{l:η α}{m:η β}(i:Nat),Paired R l m->Paired R (l.eraseIdx i) (m.eraseIdx i)
 |_,_,_,.nil=>.nil
 |_,_,0,.cons _ t=>t
 |_,_,i+1,.cons r t=>.cons r (Paired.erase i t)
theorem qR{n:Nat}(O:0<=j)(h1:j<n):ze1 j n=ς j.toNat:=by unfold ze1;have e:(if j<0 then j+(n:Int)else j)=j:=if_neg Θ;rwa[e];rw[if_pos (by simp[O,h1])]
omit x in
theorem BJ(hx:GE G X o fa)(he:GE G X e fe)(A:AsM X o "pop" apos [e] cpos):GE G X (.Call (.Attribute o "pop" apos) [e] [] cpos) (qQ fa fe):=
 PE.mono (lx PySem.F.plainAttrs_list PySem.F.slot_list_pop PySem.F.type_list_pop sw hx (bp he cj (A.star _ _ rfl).1) A.base A.few A.line (A.star _ _ rfl).1 (A.star _ _ rfl).2) λσ H Q hq2=>by
  have⟨Φ,δ,ch,F,ρ,c,ch',en,hg,k⟩:=hq2;have⟨⟨c1,ch1⟩,h1,hg1⟩:=bS hg;have⟨q,h2,U⟩:=bS hg1;cases c1 with
  |ref i=>
   have⟨l0,h3,hg3⟩:=bS U;have⟨l,h4,hg4⟩:=bS hg3;have⟨j,h5,O⟩:=bS hg4;rcases O
   rename_i hz;have⟨c',h6,e6⟩:=mS O;cases e6;refine⟨Φ,δ,ch,F,ρ,_,_,en,h1,λv F1 H1 ρ1 Y r1=>?_⟩;have⟨vs0,q0,_⟩:=Y.gh.ok i _ (bZ h3);have⟨hi,rfl⟩:=r1.1;refine⟨.inl ⟨rfl,vs0,.inl (.inl q0)⟩,Φ,δ,_,F1,ρ1,_,_,en.adv Y,h2,λw F2 H2 ρ2 W r2=>?_⟩;have⟨vs,q1,q2⟩:=W.gh.ok i _ (bZ h4);have Z:ρ2 i=ρ1 i:=W.ext i hi;have hw:=cw h5 r2.1;subst hw;have⟨y,hy,ry⟩:=Paired.get q2 h6;have a3:Adv G F2 H2 ρ2 q.2 F2 _ ρ2 _:=.put (o:=.e (l.eraseIdx j.toNat)) (u:=.e (vs.eraseIdx j.toNat)) W.gh (bZ h4) trivial ⟨_,af,Paired.erase _ q2⟩;rw[Z]at q1 a3;exact⟨_,vs,j,j.toNat,y,rfl,rfl,q1,Θ,Θ,by rw[RelSs.length q2];exact qR hz.1 hz.2.1,hy,((k.adv Y).adv W).sol a3 (ry.adv a3)⟩
  |_=>cases U
noncomputable def BK(t:Bool):CO->ζ CO
 |.e _=>if t then ψ else ς (.e [])
 |.dK _=>if t then ς (.dK [])else ψ
 |.dT _=>if t then ς (.dT [])else ψ
 |_=>ψ
noncomputable def sCl(t:Bool)(fa:Fg):Fs:=λδ ch=>(fa δ ch).bind λp=>match p.1 with
 |.ref i=>((p.2[i]?).bind (BK t)).map λo=>.nx δ (p.2.set i o)
 |_=>ψ
theorem uu {t:Bool} (hx:GE G X o fa) (O:qh8 o "clear" X.env (eval o X.env)=eval o X.env) (U:(apos.endLine==cpos.line)=θ) (hsw:qi0 (.Call (.Attribute o "clear" apos) [] [] cpos) ψ pos.line X.env=pure ξ) :
  GS1 G X (.Expr (.Call (.Attribute o "clear" apos) [] [] cpos) pos) (sCl t fa):=by
 cases t with
 |false=>
  refine PS.mono (cg (j7 PySem.F.plainAttrs_list PySem.F.slot_list_clear PySem.F.type_list_clear ly hx O U) hsw) λD σ H hq3=>?_
  have⟨Φ,δ,ch,F,ρ,og,en,hg,k⟩:=hq3;have⟨⟨c1,ch1⟩,h1,hg1⟩:=bS hg;cases c1 with
  |ref i=>
   have⟨w,h2,e2⟩:=mS hg1;cases e2;have⟨o,ho,Z⟩:=bS h2;refine⟨Φ,δ,ch,F,ρ,_,_,en,h1,λv F1 H1 ρ1 W r1=>?_⟩;have⟨hi,rfl⟩:=r1.1;have Y:=W.gh.ok i o ho;cases o with
   |e l=>cases Z;have⟨vs,q1,_⟩:=Y;exact⟨.inl ⟨rfl,vs,.inl (.inl q1)⟩,_,vs,rfl,rfl,q1,k σ F1 _ ρ1 ((en.adv W).adv (.put (o:=.e []) W.gh ho trivial ⟨_,af,.nil⟩))⟩
   |_=>cases Z
  |_=>cases hg1
 |true=>
  refine PS.mono (cg (j7 PySem.F.plainAttrs_dict PySem.F.slot_dict_clear PySem.F.type_dict_clear xH hx O U) hsw) λD σ H hq4=>?_
  have⟨Φ,δ,ch,F,ρ,og,en,hg,k⟩:=hq4;have⟨⟨c1,ch1⟩,h1,hg1⟩:=bS hg;cases c1 with
  |ref i=>
   have⟨w,h2,e2⟩:=mS hg1;cases e2;have⟨o,ho,Z⟩:=bS h2;refine⟨Φ,δ,ch,F,ρ,_,_,en,h1,λv F1 H1 ρ1 W r1=>?_⟩;have⟨hi,rfl⟩:=r1.1;have Y:=W.gh.ok i o ho;cases o with
   |dK l=>cases Z;have⟨_,J1,q1,_⟩:=Y;exact⟨.inr (.inr (.inl ⟨rfl,.inl ⟨_,q1⟩⟩)),_,rfl,rfl,.inr ⟨⟨_,q1⟩,k σ F1 _ ρ1 ((en.adv W).adv (.put (o:=.dK []) W.gh ho trivial ⟨qw9,_,af,rfl,.nil⟩))⟩⟩
   |dT l=>cases Z;have⟨_,J1,q1,_⟩:=Y;exact⟨.inr (.inr (.inl ⟨rfl,.inr ⟨_,q1⟩⟩)),_,rfl,rfl,.inl ⟨⟨_,q1⟩,k σ F1 _ ρ1 ((en.adv W).adv (.put (o:=.dT []) W.gh ho trivial ⟨qw9,_,af,rfl,.nil⟩))⟩⟩
   |_=>cases Z
  |_=>cases hg1
noncomputable def sCs(i:Nat):Fs:=λδ ch=>match dF δ i with
 |some (.e _)=>ς (.nx (δ.set i (ς (.own θ (.e [])))) ch)
 |_=>ψ
omit x in
theorem qS (hx:PE X o (pY i)) (O:qh8 o "clear" X.env (eval o X.env)=eval o X.env) (U:(apos.endLine==cpos.line)=θ) (Z:qi0 (.Call (.Attribute o "clear" apos) [] [] cpos) ψ pos.line X.env=pure ξ) :
  GS1 G X (.Expr (.Call (.Attribute o "clear" apos) [] [] cpos) pos) (sCs i):=
 PS.mono (cg (j7 PySem.F.plainAttrs_list PySem.F.slot_list_clear PySem.F.type_list_clear ly hx O U) Z) λD σ H hq5=>by
  have⟨Φ,δ,ch,F,ρ,og,en,Y,k⟩:=hq5;unfold sCs at Y;rcases Y
  rename_i l ht;cases Y;have hs:=lV ht;have⟨w,q1,q2⟩:=en.has i _ hs;have⟨a,rfl,_,⟨_,W,e0,rfl,z1,z2⟩,_⟩:=id q2;exact⟨_,q1,.inl ⟨rfl,W,SqL.of z1⟩,_,W,rfl,rfl,z1,k σ F _ ρ (en.poke hs q1 rfl ⟨_,_,rfl,rfl,af,by simp[Reps]⟩)⟩
def b9(ch:CH):CV->ζ (Key×CV)
 |.g (.t [k,d])=>(cN k).map λk=>(k,.g d)
 |.ref j=>match ch[j]? with
  |some (.t [.g k,c])=>(cN k).map λk=>(k,c)
  |_=>ψ
 |_=>ψ
def aP(ch:CH):η CV->ζ (η (Key×CV))
 |[]=>ς []
 |c::l=>(b9 ch c).bind λp=>(aP ch l).map (p::·)
omit x in
theorem uv(g:Gh G F H ρ ch){p:Key×CV}(h:b9 ch c=ς p)(r:RelS G F ρ ch.length c v):∃t u,v=.ref t/\SqT G.K H t [kV p.1,u]/\RelS G F ρ ch.length p.2 u:=by
 unfold b9 at h;split at h
 .rename_i k d;have⟨Z,O,rfl⟩:=mS h;have r:Rep G.K F (.t [k,d]) v:=r;rwa[Rep,Reps]at r;have⟨t,vs,rfl,h1,x,ws,rfl,W,y,Y,rfl,U,rfl⟩:=r;have:=dw (RepB.of g.fh (show Rep G.K F _ _ from W)) O;subst this;exact⟨t,y,rfl,g.fh.tup h1,U⟩
 .rename_i j;rcases h
  rename_i k c' hj;have⟨Z,O,rfl⟩:=mS h;have⟨vs,h1,h2⟩:=g.ok j _ hj;obtain _|⟨W,_|⟨U,_|_⟩⟩:=h2;have:=dw (RepB.of g.fh (show Rep G.K F _ _ from W)) O;subst this;exact⟨_,_,r.2,SqT.of h1,U⟩
 .cases h
theorem jK(g:Gh G F H ρ ch):∀{l:η CV}{vs:η V}{ps:η (Key×CV)},aP ch l=ς ps->RelSs G F ρ ch.length l vs->∃O:η (Key×V),vs.length=O.length/\O.map (·.1)=ps.map (·.1)/\RelSs G F ρ ch.length (ps.map (·.2)) (O.map (·.2))/\∀(j:Nat)(q:Key×V),O[j]?=ς q->∃t,vs[j]?=ς (.ref t)/\SqT G.K H t [kV q.1,q.2]
 |[],_,ps,h,.nil=>by cases h;exact⟨[],rfl,rfl,.nil,λj q U=>by simp at U⟩
 |c::l,_,ps,h,.cons Y Z=>by
  have⟨p,hp,h⟩:=bS h;have⟨ps',W,rfl⟩:=mS h;have⟨t,u,rfl,h1,h2⟩:=uv g hp Y;have⟨O,q1,q2,q3,q4⟩:=jK g W Z;refine⟨(p.1,u)::O,by simp[q1],by simp[q2],.cons h2 q3,λj q U=>?_⟩;cases j with
  |zero=>simp at U;subst U;exact⟨t,rfl,h1⟩
  |succ j=>simpa using q4 j q ‹U›
noncomputable def lZ(ch:CH):CV->ζ (η CV)
 |.ref i=>match ch[i]? with
  |some (.e l)=>ς l
  |some (.t l)=>ς l
  |_=>ψ
 |.g (.e l)=>ς (l.map .g)
 |.g (.t l)=>ς (l.map .g)
 |.own _ (.e l)=>ς (l.map .g)
 |_=>ψ
omit x in
theorem xJ{l:η CV}(g:Gh G F H ρ ch)(r:RelC G F H ρ ch.length c v)(h:lZ ch c=ς l):∃a vs b,v=.ref a/\SqB b G.K H a vs/\RelSs G F ρ ch.length l vs:=by
 unfold lZ at h;split at h
 .split at h<;>cases h
  .rename_i i _ hl;have⟨vs,h1,h2⟩:=g.ok i _ hl;exact⟨_,vs,θ,r.2,SqL.of h1,h2⟩
  .rename_i i _ hl;have⟨vs,h1,h2⟩:=g.ok i _ hl;exact⟨_,vs,ξ,r.2,SqT.of h1,h2⟩
 .cases h;rwa[RelC,RelS,Rep]at r;have⟨a,vs,rfl,h1,h2⟩:=r;exact⟨a,vs,θ,rfl,g.fh.seq h1,RelSs.dats h2⟩
 .cases h;rwa[RelC,RelS,Rep]at r;have⟨a,vs,rfl,h1,h2⟩:=r;exact⟨a,vs,ξ,rfl,g.fh.tup h1,RelSs.dats h2⟩
 .cases h;have⟨a,rfl,_,⟨b,vs,e,rfl,h1,h2⟩,_⟩:=r;exact⟨_,vs,θ,rfl,SqL.of h1,RelSs.dats h2⟩
 .cases h
theorem kG{k:Key}(h:k∉J1.map (·.1)):bA J1 k=ψ:=by
 cases q:bA J1 k with
 |none=>rfl
 |some v=>exact absurd (wK q) h
theorem dU:∀{ps J1:η (Key×V)},((J1++ps).map (·.1)).Nodup->aV J1 ps=J1++ps
 |[],J1,_=>by simp[aV]
 |p::ps,J1,h=>by
  have O:p.1∉J1.map (·.1):=λz=>by rw[qd3]at h;exact(qf4.mp h).2.2 p.1 z p.1 Ξ rfl
  rwa[aV];rw[sx _ (kG O),dU ‹h›];simp
def l4(m:Md)(ps:η (Key×CV))(ch:CH):ζ (CV×CH):=match dats (ps.map (·.2))with
 |some ds=>fin m ch (.dct ((ps.map (·.1)).zip ds))
 |none=>if(ps.map (·.2)).all CV.sol then ς (.ref ch.length,ch++[.dK ps])else ψ
def eDc(m:Md)(fa:Fg):Fg:=λδ ch=>(fa δ ch).bind λp=>(lZ p.2 p.1).bind λl=>(aP p.2 l).bind λps=>if(ps.map (·.1)).Nodup then l4 m ps p.2 else ψ
theorem xK{l:η (Key×Dt)}{p:J4}{Q:VK}(k:KO K F H (.dct l) Q)(fh:Same F H)(O:J1.map (·.1)=l.map (·.1))(r:Reps K F (l.map (·.2)) (J1.map (·.2)))(hp:H p=ψ):Q (.ref p) (upd H p (.dK J1)):=k _ _ F (λb=>b=p) (Step.made fh hp) ⟨p,J1,rfl,rfl,af,O,r⟩ λb z=>by subst z;exact⟨fh.free hp,hp,_,af,nofun⟩
omit x in
theorem xL(h:aI sc "dict"=θ)(hK:X.K=G.K)(hc:X.calm=θ)(hm:X.mg "dict"=ψ)(ha:GE G X a fa)(e1:aY X sc)(he:qb3 [a] X.env=(ξ,eval a X.env)::qb3 [] X.env):GE G X (.Call (.Name "dict" p) [a] [] pos) (eDc m fa):=
 PE.mono (dN h (ny hc) hm rfl (bp ha cj he) e1 he rfl) λσ H Q W=>by
  have⟨Φ,δ,ch,F,ρ,c,ch',en,hf,k⟩:=W;have⟨q,h1,Z⟩:=bS hf;have⟨l,h2,Y⟩:=bS Z;have⟨ps,h3,O⟩:=bS Y;rcases O
  rename_i nd;refine⟨Φ,δ,ch,F,ρ,_,_,en,h1,λv F1 H1 ρ1 U r1=>?_⟩;have⟨x,vs,b,rfl,hq,hr⟩:=xJ U.gh r1.1 h2;have⟨qs,q1,q2,q3,q4⟩:=jK U.gh h3 hr;rw[hK];refine⟨x,vs,qs,rfl,⟨b,hq⟩,q1,q4,λy hy=>?_⟩;have e:aV [] qs=qs:=by rw[dU (by simpa[q2] using nd)];simp
  rw[e];unfold l4 at O;split at O
  .rename_i ds hd;have hlen:(ps.map (·.1)).length=ds.length:=by have:=congrArg ql7 (cr hd);simpa using this
   exact xK (bL U.gh O (k.adv U)) U.gh.fh (by rw[q2,qu2 Θ]) (by rw[List.map_snd_zip Θ];exact aX hd q3) hy
  .split at O<;>cases O
   exact kq (o:=.dK ps) U.gh hy ⟨nd,qs,af,q2,q3⟩ (k.adv U)
def rUpd:V->η V->Hp->VK->Prop:=λx vs H Q=>∃d o J1 more,x=.ref d/\vs=[.ref o]/\d≠o/\H d=ς (.dK J1)/\H o=ς (.dK more)/\J1.length+more.length<=qa5/\Q .non (upd H d (.dK (aV J1 more)))
theorem ir:∀(ps J1:η (Key×Value)),merged J1 ps=b8 J1 ps
 |[],J1=>rfl
 |p::ps,J1=>ir ps _
theorem BL:MtM X "dict.update" rUpd:=by
 intro J0 s σ H x vs v us Q I rx rv h;have⟨d,o,J1,more,rfl,rfl,Y,hd,ho,hz,q⟩:=h;cases rx;have⟨u,rfl,ru⟩:=rv.one;cases ru;have⟨z1,y1,O,Z,D1⟩:=I.hok d _ hd;have⟨z2,y2,W,k2,D2⟩:=I.hok o _ ho;have l1:=Z.length;have l2:=k2.length
 refine zb8 PySem.F.slot_dict_update (show Heap.DictOf (ao X.prog X.w) s.heap d O from D1).typeIs PySem.F.entry_dict_update (PySem.F.args_dict_update_2 _ _) (meets_dict_update (ao X.prog X.w) d o Y y2)
  ⟨O,W,D1,D2,Θ,λh' hm _ hs=>?_⟩
 have U:=KV.all k2 Z;have⟨od,es,ep,e1,rest⟩:=id hm;refine⟨.non,_,I.write (x:=d) (e:=d) (o:=.dK (aV J1 more)) (h':=h') (t':=s.toks) (by rw[hd];trivial) (.inl rfl) (λb u hb hu=>(hs.2 b hb).trans hu) ⟨od,e1⟩ ⟨?_,y1,_,U,?_⟩,rfl,q⟩
 .have:=dR more J1;lia
 .rw[<- ir];exact hm
noncomputable def gp(ch:CH)(i:Nat):ζ (η (Key×CV)):=match ch[i]? with
 |some (.dK l)=>ς l
 |_=>ψ
theorem eR{l:η (Key×CV)}(h:gp ch i=ς l):ch[i]?=ς (.dK l):=by
 unfold gp at h;split at h<;>cases h
 assumption
def sUp(fa fe:Fg):Fs:=λδ ch=>(fa δ ch).bind λp=>(fe δ p.2).bind λq=>match p.1,q.1 with
 |.ref i,.ref j=>(gp p.2 i).bind λ_=>(gp q.2 i).bind λl=>(gp q.2 j).bind λn=>if i≠j/\((l++n).map (·.1)).Nodup/\l.length+n.length<=qa5 then ς (.nx δ (q.2.set i (.dK (l++n))))else ψ
 |_,_=>ψ
omit x in
theorem qU(hx:GE G X o fa)(he:GE G X e fe)(A:AsM X o "update" apos [e] cpos)(hsw:qi0 (.Call (.Attribute o "update" apos) [e] [] cpos) ψ pos.line X.env=pure ξ):GS1 G X (.Expr (.Call (.Attribute o "update" apos) [e] [] cpos) pos) (sUp fa fe):=
 PS.mono (cg (lx PySem.F.plainAttrs_dict PySem.F.slot_dict_update PySem.F.type_dict_update BL hx (bp he cj (A.star _ _ rfl).1) A.base A.few A.line (A.star _ _ rfl).1 (A.star _ _ rfl).2) hsw) λD σ H Z=>by
  have⟨Φ,δ,ch,F,ρ,og,en,hg,k⟩:=Z;have⟨⟨c1,ch1⟩,h1,hg1⟩:=bS hg;have⟨⟨c2,ch2⟩,h2,hg2⟩:=bS hg1;clear hg hg1;dsimp only at h2 hg2;rcases hg2
  rename_i i j;have⟨l0,h3,hg3⟩:=bS hg2;have⟨l,h4,hg4⟩:=bS hg3;have⟨n,h5,Y⟩:=bS hg4;split at Y<;>cases Y
  rename_i hz;refine⟨Φ,δ,ch,F,ρ,_,_,en,h1,λv F1 H1 ρ1 a1 r1=>?_⟩;have⟨_,vs0,q0,_⟩:=a1.gh.ok i _ (eR h3);have⟨hi,rfl⟩:=r1.1;refine⟨.inr (.inr (.inl ⟨rfl,.inl ⟨_,q0⟩⟩)),Φ,δ,_,F1,ρ1,_,_,en.adv a1,h2,λw F2 H2 ρ2 U r2=>?_⟩;have⟨_,O,q1,q2,q3⟩:=U.gh.ok i _ (eR h4);have⟨_,kv2,p1,p2,p3⟩:=U.gh.ok j _ (eR h5);have⟨hj,rfl⟩:=r2.1;have W:ρ2 i=ρ1 i:=U.ext i hi;have e1:=xD q2;have e2:=xD p2;have ep:aV O kv2=O++kv2:=dU (by rw[qd3,q2,p2,<- qd3];exact hz.2.1);have a3:Adv G F2 H2 ρ2 ch2 F2 _ ρ2 _:=.put (o:=.dK (l++n)) (u:=.dK (O++kv2)) U.gh (eR h4) trivial ⟨hz.2.1,_,af,by simp[q2,p2],by rw[qd3,qd3];exact Paired.app q3 p3⟩;have hne:ρ1 i≠ρ2 j:=λe=>hz.1 (U.gh.inj i j (aj (eR h4)) hj (by rw[W,e]))
  rw[W]at q1 a3;refine⟨_,_,O,kv2,rfl,rfl,hne,q1,p1,Θ,?_⟩;rw[ep];exact k σ F2 _ ρ2 (((en.adv a1).adv U).adv a3)
end
structure Op2 where
 op:qp3 ⊕ CmpOp
 g:Dt->Dt->Option T
 ok:∀(K:xA9)(X:Cx)(k:Nat),X.K=K->Room k X.A->fV K=θ->∃r,OpR X (match op with|.inl o=>qh7 o|.inr o=>qe7 o) r/\R2D K r g
structure Bf where
 nm:Str
 fv:String ⊕ String
 bt:qf5 nm=ς (fv.elim .builtin .type)
 g:List Dt->Option T
 ok:∀(K:xA9)(X:Cx)(k:Nat),X.K=K->X.calm=θ->Room k X.A->∃r,bR X (fv.elim .builtin .type) r/\CRD K r g
structure Ms where
 nm:Str
 id:String
 slot:Slot "str" nm id
 ty:typeOf (.builtin id)=pure (.type "method_descriptor")
 g:Dt->List Dt->Option T
 ok:∀(K:xA9)(X:Cx),X.K=K->∃r,MtR X id r/\MRD K r g
structure Ia where
 op:qp3
 f:Int->Int->Int
 ok:∀X:Cx,PIp X op (ipI f)
set_option backward.match.sparseCases false
inductive E where
 |k (d:Dt)|v (i:Nat)|g (j:Nat)
 |b2 (o:Op2) (m:Md) (a b:E)
 |nt (a:E)|ng (a:E)|an (a b:E)|cd (c a b:E)
 |tr (a:E)|tn (a:E)|ta (a b:E)|to (a b:E)
 |bn (o:Bf) (m:Md) (as:E)|ii (c:String) (a:E)|ms (o:Ms) (m:Md) (a as:E)|gt (a k e:E)
 |ca (j:Nat) (as:E)|me (j:Nat) (o as:E)|mk (j:Nat) (as:E)
 |at (c f:Nat) (o:E)|ix (a b:E)|sl (m:Md) (a lo hi:E)|no
 |ls (m:Md) (as:E)|tu (as:E)|dn (m:Md) (t:Bool)|il (m:Md) (a:E)|pp (a b:E)|dc (m:Md) (a:E)
 |co (m:Md) (src:List (Option Nat)) (pt:Pt) (it c e:E)|ys
 |it (a:E)|rg (as:E)|en (a:E)
 |nil|cons (a as:E)
inductive EnBq where
 |fn (x:Str) (n:Nat) (F:Fd)|fd (x:Str) (n:Nat) (d:Int) (F:Fd)|me (c:Nat) (m:Str) (n:Nat) (F:Fd)|mk (c:Nat) (n:Nat) (F:Fd)
structure Tb where
 f:List EnBq
 gc:List (Str×Dt)
noncomputable def nF:Fg:=λ_ _=>ψ
noncomputable def aDf(d:Int)(fs:FM (η CV)):FM (η CV):=λδ ch=>(fs δ ch).map λp=>(p.1++[.g (.int d)],p.2)
noncomputable def uw:E->Nat
 |.cons _ as=>uw as+1
 |_=>0
noncomputable def gcE:ζ (Str×Dt)->Fg
 |some p=>eK p.2
 |none=>nF
def caE(as:FM (η CV)):ζ EnBq->Fg
 |some (.fn _ n F)=>eCa n F as
 |some (.fd _ n d F)=>eCa n F (aDf d as)
 |_=>nF
def meE(o:Fg)(as:FM (η CV)):ζ EnBq->Fg
 |some (.me c _ n F)=>eMe c n F o as
 |_=>nF
def mkE(as:FM (η CV)):ζ EnBq->Fg
 |some (.mk c n F)=>eMk c n F as
 |_=>nF
mutual
def evE(tb:Tb):E->Fg
 |.k d=>eK d
 |.v i=>eV i
 |.g j=>gcE tb.gc[j]?
 |.b2 o m a b=>e2 m o.g (evE tb a) (evE tb b)
 |.nt a=>eNt (evE tb a)
 |.ng a=>eNg (evE tb a)
 |.an a b=>eAn (evE tb a) (evE tb b)
 |.cd c a b=>eIf (evT tb c) (evE tb a) (evE tb b)
 |.bn o m as=>eB m o.g (evA tb as)
 |.ii c a=>eIs c (evE tb a)
 |.ms o m a as=>eMt m o.g (evE tb a) (evA tb as)
 |.gt a k e=>eGt (evE tb a) (evE tb k) (evE tb e)
 |.ca j as=>caE (evA tb as) tb.f[j]?
 |.me j o as=>meE (evE tb o) (evA tb as) tb.f[j]?
 |.mk j as=>mkE (evA tb as) tb.f[j]?
 |.at c f o=>eAt c f (evE tb o)
 |.ix a b=>eIx (evE tb a) (evE tb b)
 |.sl m a lo hi=>eSl m (evE tb a) (evO tb lo) (evO tb hi)
 |.ls m as=>eLs m (evA tb as)
 |.tu as=>eTu (evA tb as)
 |.dn m t=>eDn m t
 |.il m a=>eIl m (evE tb a)
 |.pp a b=>qQ (evE tb a) (evE tb b)
 |.dc m a=>eDc m (evE tb a)
 |.co m src pt it c e=>eCo m src (evI tb it) (bnd pt) (evT tb c) (evE tb e)
 |_=>nF
def evO(tb:Tb):E->ζ Fg
 |.no=>ψ
 |.cons a _=>ς (evE tb a)
 |_=>ς nF
def evT(tb:Tb):E->FM Bool
 |.tr (.b2 o m a b)=>iZ (e2 m o.g (evE tb a) (evE tb b))
 |.tr a=>gm (evE tb a)
 |.tn a=>tNt (evT tb a)
 |.ta a b=>tAn (evT tb a) (evT tb b)
 |.to a b=>tG (evT tb a) (evT tb b)
 |.ys=>tYs
 |_=>λ_ _=>ψ
def evA(tb:Tb):E->FM (η CV)
 |.nil=>aNl
 |.cons a as=>aCn (evE tb a) (evA tb as)
 |_=>λ_ _=>ψ
def evI(tb:Tb):E->FM (η Dt)
 |.it a=>iE (evE tb a)
 |.rg as=>iR (uw as) (evA tb as)
 |.en a=>iN (evE tb a)
 |_=>λ_ _=>ψ
end
inductive S where
 |nil|sq (s ss:S)|fz (i:Nat) (ss:S)
 |set (i:Nat) (e:E)|un (pt:Pt) (e:E)|put (a k e:E)|fl (c f:Nat) (o e:E)|fa (c f:Nat) (o:Ia) (a e:E)|au (i:Nat) (o:Ia) (e:E)
 |dr (e:E)|ap (a e:E)|aps (i:Nat) (e:E)|cl (t:Bool) (a:E)|cls (i:Nat)|up (a e:E)
 |rt (e:E)|rn|bk
 |cd (c:E) (a b:S)|fo (pt:Pt) (it:E) (b:S)|wh (n:Nat) (c:E) (b:S)
def evS(tb:Tb):S->Fs
 |.nil=>dQ
 |.sq s ss=>aL (evS tb s) (evS tb ss)
 |.fz i ss=>sFz i (evS tb ss)
 |.set i e=>i7 i (evE tb e)
 |.un pt e=>sUn pt (evE tb e)
 |.put a k e=>sPt (evE tb a) (evE tb k) (evE tb e)
 |.fl c f o e=>sFl c f (evE tb o) (evE tb e)
 |.fa c f o a e=>sFa c f o.f (evE tb a) (evE tb e)
 |.au i o e=>sAu i o.f (evE tb e)
 |.dr e=>sDr (evE tb e)
 |.ap a e=>sAp (evE tb a) (evE tb e)
 |.aps i e=>sAs i (evE tb e)
 |.cl t a=>sCl t (evE tb a)
 |.cls i=>sCs i
 |.up a e=>sUp (evE tb a) (evE tb e)
 |.rt e=>sRt (evE tb e)
 |.rn=>sRn
 |.bk=>sBk
 |.cd c a b=>sIf (evT tb c) (evS tb a) (evS tb b)
 |.fo pt it b=>qA (evI tb it) (bnd pt) (evS tb b)
 |.wh n c b=>whZ (evT tb c) (evS tb b) n
section
variable{tb:Tb}
theorem zk0{d}:evE tb (.k d)=eK d:=rfl
theorem zk1{i}:evE tb (.v i)=eV i:=rfl
theorem zk2{j}:evE tb (.g j)=gcE tb.gc[j]?:=rfl
theorem zk3{o m a b}:evE tb (.b2 o m a b)=e2 m o.g (evE tb a) (evE tb b):=rfl
theorem zk4{a}:evE tb (.nt a)=eNt (evE tb a):=rfl
theorem zk5{a}:evE tb (.ng a)=eNg (evE tb a):=rfl
theorem zk6{a b}:evE tb (.an a b)=eAn (evE tb a) (evE tb b):=rfl
theorem zk7{c a b}:evE tb (.cd c a b)=eIf (evT tb c) (evE tb a) (evE tb b):=rfl
theorem zk8{o m x}:evE tb (.bn o m x)=eB m o.g (evA tb x):=rfl
theorem zk9{c a}:evE tb (.ii c a)=eIs c (evE tb a):=rfl
theorem zk10{o m a x}:evE tb (.ms o m a x)=eMt m o.g (evE tb a) (evA tb x):=rfl
theorem zk11{a k e}:evE tb (.gt a k e)=eGt (evE tb a) (evE tb k) (evE tb e):=rfl
theorem zk12{j x}:evE tb (.ca j x)=caE (evA tb x) tb.f[j]?:=rfl
theorem zk13{j o x}:evE tb (.me j o x)=meE (evE tb o) (evA tb x) tb.f[j]?:=rfl
theorem zk14{j x}:evE tb (.mk j x)=mkE (evA tb x) tb.f[j]?:=rfl
theorem zk15{c f o}:evE tb (.at c f o)=eAt c f (evE tb o):=rfl
theorem zk16{a b}:evE tb (.ix a b)=eIx (evE tb a) (evE tb b):=rfl
theorem zk17{m a l h}:evE tb (.sl m a l h)=eSl m (evE tb a) (evO tb l) (evO tb h):=rfl
theorem zk18{m x}:evE tb (.ls m x)=eLs m (evA tb x):=rfl
theorem zk19{x}:evE tb (.tu x)=eTu (evA tb x):=rfl
theorem zk20{m t}:evE tb (.dn m t)=eDn m t:=rfl
theorem zk21{m a}:evE tb (.il m a)=eIl m (evE tb a):=rfl
theorem zk22{a b}:evE tb (.pp a b)=qQ (evE tb a) (evE tb b):=rfl
theorem zk23{m a}:evE tb (.dc m a)=eDc m (evE tb a):=rfl
theorem zk24{m s p i c e}:evE tb (.co m s p i c e)=eCo m s (evI tb i) (bnd p) (evT tb c) (evE tb e):=rfl
theorem zk25:evO tb .no=ψ:=rfl
theorem zk26{a b}:evO tb (.cons a b)=ς (evE tb a):=rfl
theorem zk27{o m a b}:evT tb (.tr (.b2 o m a b))=iZ (e2 m o.g (evE tb a) (evE tb b)):=rfl
theorem zk28{j x}:evT tb (.tr (.ca j x))=gm (evE tb (.ca j x)):=rfl
theorem zk29{c a}:evT tb (.tr (.ii c a))=gm (evE tb (.ii c a)):=rfl
theorem zk30{a b}:evT tb (.tr (.ix a b))=gm (evE tb (.ix a b)):=rfl
theorem zk31{j o x}:evT tb (.tr (.me j o x))=gm (evE tb (.me j o x)):=rfl
theorem zk32{a}:evT tb (.tn a)=tNt (evT tb a):=rfl
theorem zk33{a b}:evT tb (.ta a b)=tAn (evT tb a) (evT tb b):=rfl
theorem zk34{a b}:evT tb (.to a b)=tG (evT tb a) (evT tb b):=rfl
theorem zk35:evT tb .ys=tYs:=rfl
theorem zk36:evA tb .nil=aNl:=rfl
theorem zk37{a x}:evA tb (.cons a x)=aCn (evE tb a) (evA tb x):=rfl
theorem zk38{a}:evI tb (.it a)=iE (evE tb a):=rfl
theorem zk39{x}:evI tb (.rg x)=iR (uw x) (evA tb x):=rfl
theorem zk40{a}:evI tb (.en a)=iN (evE tb a):=rfl
theorem zk41:evS tb .nil=dQ:=rfl
theorem zk42{s ss}:evS tb (.sq s ss)=aL (evS tb s) (evS tb ss):=rfl
theorem zk43{i ss}:evS tb (.fz i ss)=sFz i (evS tb ss):=rfl
theorem zk44{i e}:evS tb (.set i e)=i7 i (evE tb e):=rfl
theorem zk45{pt e}:evS tb (.un pt e)=sUn pt (evE tb e):=rfl
theorem zk46{a k e}:evS tb (.put a k e)=sPt (evE tb a) (evE tb k) (evE tb e):=rfl
theorem zk47{c f o e}:evS tb (.fl c f o e)=sFl c f (evE tb o) (evE tb e):=rfl
theorem zk48{c f o a e}:evS tb (.fa c f o a e)=sFa c f o.f (evE tb a) (evE tb e):=rfl
theorem zk49{i o e}:evS tb (.au i o e)=sAu i o.f (evE tb e):=rfl
theorem zk50{e}:evS tb (.dr e)=sDr (evE tb e):=rfl
theorem zk51{a e}:evS tb (.ap a e)=sAp (evE tb a) (evE tb e):=rfl
theorem zk52{i e}:evS tb (.aps i e)=sAs i (evE tb e):=rfl
theorem zk53{t a}:evS tb (.cl t a)=sCl t (evE tb a):=rfl
theorem zk54{a e}:evS tb (.up a e)=sUp (evE tb a) (evE tb e):=rfl
theorem zk55{e}:evS tb (.rt e)=sRt (evE tb e):=rfl
theorem zk56:evS tb .rn=sRn:=rfl
theorem zk57{c a b}:evS tb (.cd c a b)=sIf (evT tb c) (evS tb a) (evS tb b):=rfl
theorem zk58{pt it b}:evS tb (.fo pt it b)=qA (evI tb it) (bnd pt) (evS tb b):=rfl
theorem zk59{n c b}:evS tb (.wh n c b)=whZ (evT tb c) (evS tb b) n:=rfl
end
end L2
namespace L2
open PySem PySem.Spec PyProof.Rows
theorem noT{p:Prop}(h:ξ=θ):p:=by cases h
structure Lw where
 bl:List Str
 ct:List (Str×List Str)
 ks:List String
structure Sc where
 sc:J9
 N:List Str
noncomputable def cst(e:J8):Dt->Bool
 |.int j=>(match e with|.Constant (.int i) _ _=>i==j|_=>ξ)
 |.str y=>(match e with|.Constant (.str x) _ _=>x==y|_=>ξ)
 |.bl c=>(match e with|.Constant (.bool b) _ _=>b==c|_=>ξ)
 |.non=>(match e with|.Constant .none _ _=>θ|_=>ξ)
 |_=>ξ
noncomputable def ax:J8->Bool
 |.Starred _ _=>ξ
 |_=>θ
noncomputable def aU:J8->Bool
 |.Call (.Name _ _) [] [] _=>ξ
 |_=>θ
noncomputable def gF:J8->Bool
 |.Slice _ _ _ _=>ξ
 |_=>θ
noncomputable def iu:J8->Bool
 |.ListComp _ _ _ _|.SetComp _ _ _ _|.DictComp _ _ _ _ _=>ξ
 |_=>θ
noncomputable def ux:J8->Bool
 |.Set _ _ _=>ξ
 |_=>θ
noncomputable def DP:J8->Bool
 |.Tuple _ _ _|.List _ _=>ξ
 |_=>θ
variable{m:Str}{apos:Pos}
section
variable{e o:J8}{es:η J8}{env:Env}{pos:Pos}
theorem aA(h:ax e=θ):qb3 (e::es) env=(ξ,eval e env)::qb3 es env:=by cases e<;>first|rfl|exact noT h
theorem bf:∀{es:η J8},es.all ax=θ->(qh6 pos (qb3 es env)).any (·.1)=ξ
 |[],_=>rfl
 |e::es,h=>by rwa[qd4,qa1]at h;rw[aA h.1];show(ξ||(qh6 pos (qb3 es env)).any (·.1))=ξ;rw[bf h.2];rfl
theorem l5:∀{es:η J8},es.all ax=θ->(qh6 pos (qb3 es env)).all (λx=>!x.1)=θ
 |[],_=>rfl
 |e::es,h=>by rwa[qd4,qa1]at h;rw[aA h.1];show(!false&&(qh6 pos (qb3 es env)).all (λx=>!x.1))=θ;rw[l5 h.2];rfl
theorem base_of(h:aU o=θ):qh8 o m env (eval o env)=eval o env:=by
 cases o with
 |Call f a k p=>cases f<;>cases a<;>cases k<;>first|rfl|exact noT h
 |_=>rfl
theorem nA(h:gF e=θ):j0 e:=λa i=>by cases e<;>first|rfl|exact noT h
theorem iw{t:ζ J8}{n:Nat}(h:iu e=θ):qi0 e t n env=pure ξ:=by cases e<;>first|rfl|exact noT h
theorem kJ(h:ux e=θ)(x:Value):qh4 e env x=pure x:=by cases e<;>first|rfl|exact noT h
theorem kL (h:es.all ax=θ) (O:es.length<30):((qh6 pos (qb3 es env)).all (λx=>!x.1)&&(qo6 pos (qi3 [] env)).all (λx=>x.1.isSome)
      && decide (es.length+([]:η qw8).length+(if([]:η qw8).isEmpty then 0 else 1)<30))=θ:=by
 rw[l5 h];rwa[qf9,zc4,qz1];rw[show(qo6 pos (qi3 [] env)).all (λx=>x.1.isSome)=θ from rfl,qz1];exact decide_eq_true O
theorem qX (hb:aU o=θ) (hf:es.all ax=θ) (U:es.length<30) (hl:(apos.endLine==pos.line)=θ) :
  ∃pl,eval (.Call (.Attribute o m apos) es [] pos) env=(do
   let ov <- eval o env
   qw6 apos.atName
   let (f,first) <- qo9 [ov] (qv0 ov m pl)
   zc7 pos f first (qh6 pos (qb3 es env)) (qo6 pos (qi3 [] env))):=by
 refine⟨do return (<- importBound o env).getD θ,?_⟩;have O:methodCallForm (es.length+([]:η qw8).length) (qh6 pos (qb3 es env)) (qo6 pos (qi3 [] env))=θ:=kL hf U;rw[PySem.arm_eval_Call,base_of hb];unfold methodCall;rw[O];unfold calleeOf methodCallPos;rwa[hl,ze5,ze2,if_true,qy5]
end
def fNm(c:Sc)(inn:Bool)(i:Nat):J8->Bool
 |.Name x _=>bQ c.sc c.N i x&&(if inn then loOk c.sc x else iX c.sc x)
 |_=>ξ
def xM(c:Sc)(inn:Bool):η Nat->η J8->Bool
 |[],[]=>θ
 |i::is,e::es=>fNm c inn i e&&xM c inn is es
 |_,_=>ξ
def fP(c:Sc)(inn:Bool):Pt->J8->Bool
 |.one i,e=>fNm c inn i e
 |.many is,.Tuple es _ _=>xM c inn is es
 |_,_=>ξ
noncomputable def bm(sc:J9):η Str:=sc.names.filterMap λy=>if y.2==.local||y.2==.cell||y.2==.free then ς y.1 else ψ
noncomputable def zi:J8->Bool
 |.Tuple _ _ _=>θ
 |_=>ξ
noncomputable def nB:J8->Bool
 |.UnaryOp .Not _ _|.BoolOp _ _ _|.IfExp _ _ _ _|.Compare _ _ _ _=>ξ
 |_=>θ
noncomputable def zj:E->Bool
 |.b2 _ _ _ _=>ξ
 |_=>θ
noncomputable def isYs:E->Bool
 |.ys=>θ
 |_=>ξ
variable{l:η J8}
section
variable{e:J8}{st:J6}
noncomputable def dxN(e:J8)(k:Str->Bool):Bool:=match e with|.Name x _=>k x|_=>ξ
theorem dxN.of{k:Str->Bool}(h:dxN e k=θ):∃x p,e=.Name x p/\k x=θ:=by cases e<;>first|exact⟨_,_,rfl,h⟩|exact noT h
noncomputable def dxC(e:J8)(k:J8->η J8->Pos->Bool):Bool:=match e with|.Call f ys [] p=>k f ys p|_=>ξ
theorem dxC.of{k:J8->η J8->Pos->Bool}(h:dxC e k=θ):∃f ys p,e=.Call f ys [] p/\k f ys p=θ:=by
 cases e with
 |Call f ys ks p=>cases ks<;>first|exact⟨_,_,_,rfl,h⟩|exact noT h
 |_=>exact noT h
noncomputable def dxA(e:J8)(k:J8->Str->Pos->Bool):Bool:=match e with|.Attribute x m p=>k x m p|_=>ξ
theorem dxA.of{k:J8->Str->Pos->Bool}(h:dxA e k=θ):∃x m p,e=.Attribute x m p/\k x m p=θ:=by cases e<;>first|exact⟨_,_,_,rfl,h⟩|exact noT h
noncomputable abbrev dxF(e:J8)(k:Str->η J8->Bool):Bool:=dxC e λf ys _=>dxN f λx=>k x ys
theorem dxF.of{k:Str->η J8->Bool}(h:dxF e k=θ):∃x q ys p,e=.Call (.Name x q) ys [] p/\k x ys=θ:=by have⟨f,ys,p,rfl,h⟩:=dxC.of h;have⟨x,q,rfl,h⟩:=dxN.of h;exact⟨x,q,ys,p,rfl,h⟩
noncomputable abbrev dxM(e:J8)(k:J8->Str->Pos->η J8->Pos->Bool):Bool:=dxC e λf ys p=>dxA f λx m ap=>k x m ap ys p
theorem dxM.of{k:J8->Str->Pos->η J8->Pos->Bool}(h:dxM e k=θ):∃x m ap ys p,e=.Call (.Attribute x m ap) ys [] p/\k x m ap ys p=θ:=by have⟨f,ys,p,rfl,h⟩:=dxC.of h;have⟨x,m,q,rfl,h⟩:=dxA.of h;exact⟨x,m,q,ys,p,rfl,h⟩
noncomputable def dxP(e:J8)(k:J8->qp3->J8->Bool):Bool:=match e with|.BinOp l o r _=>k l o r|_=>ξ
theorem dxP.of{k:J8->qp3->J8->Bool}(h:dxP e k=θ):∃l o r p,e=.BinOp l o r p/\k l o r=θ:=by cases e<;>first|exact⟨_,_,_,_,rfl,h⟩|exact noT h
noncomputable def dxV(l:η J8)(k:J8->Bool):Bool:=match l with|[x]=>k x|_=>ξ
theorem dxV.of{k:J8->Bool}(h:dxV l k=θ):∃x,l=[x]/\k x=θ:=by
 cases l with
 |nil=>exact noT h
 |cons x l=>cases l<;>first|exact⟨_,rfl,h⟩|exact noT h
noncomputable def dxW(l:η J8)(k:J8->J8->Bool):Bool:=match l with|x::l=>dxV l (k x)|_=>ξ
theorem dxW.of{k:J8->J8->Bool}(h:dxW l k=θ):∃x y,l=[x,y]/\k x y=θ:=by
 cases l with
 |nil=>exact noT h
 |cons x l=>have⟨y,rfl,h⟩:=dxV.of h;exact⟨x,y,rfl,h⟩
noncomputable def dxQ(e:J8)(k:J8->CmpOp->J8->Bool):Bool:=match e with|.Compare l [o] rs _=>dxV rs (k l o)|_=>ξ
theorem dxQ.of{k:J8->CmpOp->J8->Bool}(h:dxQ e k=θ):∃l o r p,e=.Compare l [o] [r] p/\k l o r=θ:=by
 cases e with
 |Compare l O U p=>
  cases O with
  |nil=>exact noT h
  |cons o O=>
   cases O with
   |nil=>have⟨y,rfl,h⟩:=dxV.of h;exact⟨_,_,_,_,rfl,h⟩
   |cons _ _=>exact noT h
 |_=>exact noT h
noncomputable def dxU(b:Bool)(e:J8)(k:J8->Bool):Bool:=match e with|.UnaryOp .Not x _=>b&&k x|.UnaryOp .USub x _=>!b&&k x|_=>ξ
theorem dxU.of{b:Bool}{k:J8->Bool}(h:dxU b e k=θ):∃x p,e=.UnaryOp (if b then .Not else .USub) x p/\k x=θ:=by
 cases e with
 |UnaryOp o x p=>cases o<;>cases b<;>first|exact⟨_,_,rfl,h⟩|exact noT h
 |_=>exact noT h
noncomputable def dxB(b:Bool)(e:J8)(k:J8->J8->Bool):Bool:=match e with
 |.BoolOp o (x::y::l) p=>(match o with|.And=>b|.Or=>!b)&&(match l with|[]=>k x y|z::r=>k x (.BoolOp o (y::z::r) p))
 |_=>ξ
theorem dxB.of{b:Bool}{k:J8->J8->Bool}(h:dxB b e k=θ):∃x y l p,e=.BoolOp (if b then .And else .Or) (x::y::l) p/\((l=[]/\k x y=θ)\/∃z r,l=z::r/\k x (.BoolOp (if b then .And else .Or) (y::z::r) p)=θ):=by
 cases e with
 |BoolOp o vs p=>
  cases vs with
  |nil=>exact noT h
  |cons x vs=>
   cases vs with
   |nil=>exact noT h
   |cons y l=>cases o<;>cases b<;>cases l<;>first|exact⟨_,_,_,_,rfl,.inl ⟨rfl,h⟩⟩|exact⟨_,_,_,_,rfl,.inr ⟨_,_,rfl,h⟩⟩|exact noT h
 |_=>exact noT h
noncomputable def dxI(e:J8)(k:J8->J8->J8->Bool):Bool:=match e with|.IfExp x y z _=>k x y z|_=>ξ
theorem dxI.of{k:J8->J8->J8->Bool}(h:dxI e k=θ):∃x y z p,e=.IfExp x y z p/\k x y z=θ:=by cases e<;>first|exact⟨_,_,_,_,rfl,h⟩|exact noT h
noncomputable def dxS(e:J8)(k:J8->J8->Pos->Bool):Bool:=match e with|.Subscript x y p=>k x y p|_=>ξ
theorem dxS.of{k:J8->J8->Pos->Bool}(h:dxS e k=θ):∃x y p,e=.Subscript x y p/\k x y p=θ:=by cases e<;>first|exact⟨_,_,_,rfl,h⟩|exact noT h
noncomputable def dxZ(e:J8)(k:ζ J8->ζ J8->Bool):Bool:=match e with|.Slice l h ψ _=>k l h|_=>ξ
theorem dxZ.of{k:ζ J8->ζ J8->Bool}(h:dxZ e k=θ):∃x y p,e=.Slice x y ψ p/\k x y=θ:=by
 cases e with
 |Slice x y z p=>cases z<;>first|exact⟨_,_,_,rfl,h⟩|exact noT h
 |_=>exact noT h
noncomputable def dxL(e:J8)(k:η J8->Bool):Bool:=match e with|.List ys _=>k ys|_=>ξ
theorem dxL.of{k:η J8->Bool}(h:dxL e k=θ):∃ys p,e=.List ys p/\k ys=θ:=by cases e<;>first|exact⟨_,_,rfl,h⟩|exact noT h
noncomputable def dxT(e:J8)(k:η J8->Bool):Bool:=match e with|.Tuple ys _ _=>k ys|_=>ξ
theorem dxT.of{k:η J8->Bool}(h:dxT e k=θ):∃ys q p,e=.Tuple ys q p/\k ys=θ:=by cases e<;>first|exact⟨_,_,_,rfl,h⟩|exact noT h
noncomputable def dxD(e:J8):Bool:=match e with|.Dict [] [] _=>θ|_=>ξ
theorem dxD.of(h:dxD e=θ):∃p,e=.Dict [] [] p:=by
 cases e with
 |Dict a b p=>cases a<;>cases b<;>first|exact⟨_,rfl⟩|exact noT h
 |_=>exact noT h
noncomputable def dxK(e:J8)(k:J8->J8->J8->η J8->J9->Bool):Bool:=match e with|.ListComp elt [⟨tg,iter,ifs,n⟩] scope _=>(n==0)&&k elt tg iter ifs scope|_=>ξ
theorem dxK.of{k:J8->J8->J8->η J8->J9->Bool}(h:dxK e k=θ):∃elt tg iter ifs scope p,e=.ListComp elt [⟨tg,iter,ifs,0⟩] scope p/\k elt tg iter ifs scope=θ:=by
 cases e with
 |ListComp elt gs scope p=>
  cases gs with
  |nil=>exact noT h
  |cons g gs=>
   have⟨tg,iter,ifs,n⟩:=g;cases gs with
   |nil=>have⟨q,h⟩:=qc1.mp h;obtain rfl:=beq_iff_eq.mp q;exact⟨_,_,_,_,_,_,rfl,h⟩
   |cons _ _=>exact noT h
 |_=>exact noT h
noncomputable def dxO{α:Type}(o:ζ α)(k:α->Bool):Bool:=match o with|some x=>k x|none=>ξ
theorem dxO.of{α:Type}{o:ζ α}{k:α->Bool}(h:dxO o k=θ):∃x,o=ς x/\k x=θ:=by cases o<;>first|exact⟨_,rfl,h⟩|exact noT h
end
noncomputable def caOk(x:Str)(ys:η J8):EnBq->Bool
 |.fn y _ _=>y==x
 |.fd y _ _ _=>(y==x)&&!ys.isEmpty
 |_=>ξ
noncomputable def meOk(L:Lw)(m:Str):EnBq->Bool
 |.me cl y _ _=>(y==m)&&dxO L.ct[cl]? λq=>!(q.2.contains m)
 |_=>ξ
noncomputable def mkOk(L:Lw)(x:Str):EnBq->Bool
 |.mk cl _ _=>dxO L.ct[cl]? λq=>q.1==x
 |_=>ξ
mutual
def fE(L:Lw)(tb:Tb)(c:Sc):E->J8->Bool
 |.k d,e=>cst e d
 |.v i,e=>dxN e λx=>bQ c.sc c.N i x
 |.g j,e=>dxN e λx=>aI c.sc x&&dxO tb.gc[j]? λp=>p.1==x
 |.b2 o _ a b,e=>(match o.op with
  |.inl op=>dxP e λl op' r=>decide (op'=op)&&fE L tb c a l&&fE L tb c b r
  |.inr op=>dxQ e λl op' r=>decide (op'=op)&&!behindInMarks op' r&&fE L tb c a l&&fE L tb c b r)
 |.nt a,e=>dxU θ e λx=>fE L tb c a x
 |.ng a,e=>dxU ξ e λx=>fE L tb c a x
 |.an a b,e=>dxB θ e λx y=>fE L tb c a x&&fE L tb c b y
 |.cd t a b,e=>dxI e λx y z=>fT L tb c t x&&fE L tb c a y&&fE L tb c b z
 |.bn o _ as,e=>dxF e λx ys=>!ys.isEmpty&&(x==o.nm)&&aI c.sc x&&L.bl.contains x&&ys.all ax&&fA L tb c as ys
 |.ii cn a,e=>dxF e λf ys=>dxW ys λx u=>dxN u λt=>(f==("isinstance":Str))&&aI c.sc f&&L.bl.contains f&&aI c.sc t&&L.bl.contains t&&(qf5 t==ς (.type cn))&&L.ks.contains cn&&ax x&&fE L tb c a x
 |.ms o _ a as,e=>dxM e λx m ap ys p=>!ys.isEmpty&&(m==o.nm)&&(ap.endLine==p.line)&&aU x&&ys.all ax&&decide (ys.length<30)&&fE L tb c a x&&fA L tb c as ys
 |.gt a k d,e=>dxM e λx m ap ys p=>dxW ys λy z=>(m==("get":Str))&&(ap.endLine==p.line)&&aU x&&ax y&&ax z&&fE L tb c a x&&fE L tb c k y&&fE L tb c d z
 |.ca j as,e=>dxF e λx ys=>dxO tb.f[j]? (caOk x ys)&&aI c.sc x&&ys.all ax&&fA L tb c as ys
 |.me j o as,e=>dxM e λx m ap ys p=>dxO tb.f[j]? (meOk L m)&&(ap.endLine==p.line)&&aU x&&ys.all ax&&decide (ys.length<30)&&fE L tb c o x&&fA L tb c as ys
 |.mk j as,e=>dxF e λx ys=>dxO tb.f[j]? (mkOk L x)&&aI c.sc x&&ys.all ax&&fA L tb c as ys
 |.at cl f o,e=>dxA e λx fn _=>(dxO L.ct[cl]? λq=>decide (q.2[f]?=ς fn))&&aU x&&fE L tb c o x
 |.ix a b,e=>dxS e λx y _=>gF y&&fE L tb c a x&&fE L tb c b y
 |.sl _ a lo hi,e=>dxS e λx y _=>dxZ y λl h=>fE L tb c a x&&fO L tb c lo l&&fO L tb c hi h
 |.ls _ as,e=>dxL e λys=>ys.all ax&&fA L tb c as ys
 |.tu as,e=>dxT e λys=>ys.all ax&&fA L tb c as ys
 |.dn _ _,e=>dxD e
 |.il _ a,e=>dxF e λx ys=>dxV ys λz=>dxM z λy m ap zs cp=>zs.isEmpty&&(x==("list":Str))&&aI c.sc x&&L.bl.contains x&&(m==("items":Str))&&(ap.endLine==cp.line)&&aU y&&fE L tb c a y
 |.pp a b,e=>dxM e λy m ap ys cp=>dxV ys λz=>(m==("pop":Str))&&(ap.endLine==cp.line)&&aU y&&ax z&&fE L tb c a y&&fE L tb c b z
 |.dc _ a,e=>dxF e λx ys=>dxV ys λy=>(x==("dict":Str))&&aI c.sc x&&L.bl.contains x&&ax y&&fE L tb c a y
 | .co _ src pt it t a,e=>dxK e λelt tg iter ifs scope=>sR c.N c.sc scope ((bm scope).drop 1) src&&fI L tb c it tg iter&&ux iter&&fP ⟨cT scope c.sc,(bm scope).drop 1⟩ θ pt tg&&(pt.slots.all λk=>decide (src[k]?=ς ψ))&&
     ((ifs.isEmpty&&isYs t)||dxV ifs λx=>fT L tb ⟨cT scope c.sc,(bm scope).drop 1⟩ t x)&&fE L tb ⟨cT scope c.sc,(bm scope).drop 1⟩ a elt
 |_,_=>ξ
def fO(L:Lw)(tb:Tb)(c:Sc):E->ζ J8->Bool
 |.no,o=>o.isNone
 |.cons a _,o=>dxO o λe=>fE L tb c a e
 |_,_=>ξ
def fT(L:Lw)(tb:Tb)(c:Sc):E->J8->Bool
 |.tr a,e=>if nB e then zj a&&fE L tb c a e else fTr L tb c a e
 |.tn a,e=>dxU θ e λx=>fT L tb c a x
 |.ta a b,e=>dxB θ e λx y=>fT L tb c a x&&fT L tb c b y
 |.to a b,e=>dxB ξ e λx y=>fT L tb c a x&&fT L tb c b y
 |_,_=>ξ
def fTr(L:Lw)(tb:Tb)(c:Sc):E->J8->Bool
 |.b2 o _ a b,e=>dxQ e λl op r=>decide (o.op=.inr op)&&!behindInMarks op r&&fE L tb c a l&&fE L tb c b r
 |_,_=>ξ
def fA(L:Lw)(tb:Tb)(c:Sc):E->η J8->Bool
 |.nil,es=>es.isEmpty
 |.cons a as,es=>(match es with|e::es=>fE L tb c a e&&fA L tb c as es|[]=>ξ)
 |_,_=>ξ
def fI(L:Lw)(tb:Tb)(c:Sc):E->J8->J8->Bool
 |.it a,_,e=>fE L tb c a e
 |.rg as,_,e=>dxF e λx ys=>(x==("range":Str))&&aI c.sc x&&L.bl.contains x&&ys.all ax&&decide (ys.length=uw as)&&decide (1<=ys.length)&&decide (ys.length<=1)&&fA L tb c as ys
 |.en a,tg,e=>zi tg&&dxF e λx ys=>dxV ys λy=>(x==("enumerate":Str))&&aI c.sc x&&L.bl.contains x&&ax y&&fE L tb c a y
 |_,_,_=>ξ
end
noncomputable def lev(n:Nat):Nat:=2*n
def EnP(G:Gx)(P:qe5)(w:J5)(K:xA9)(mg:Str->ζ Value)(base:Heap)(k:Nat):EnBq->Prop
 |.fn x n F=>∃ps,OkF P w K mg base x k ps (spZ G n F)
 |.fd x n d F=>∃ps f fd t,mg x=ς (.ref f)/\xD9 K (.ref f)=θ/\Binds K fd ps [.int d t]/\FnOk P w K mg base CX0 k f fd ps (spZ G n F)
 |.me c m n F=>∀p,G.ct[c]?=ς p->∃ps,OkM P w K mg base p.1 m k ps (spZ G n F)
 |.mk c n F=>∀p,G.ct[c]?=ς p->∃ps,OkI P w K mg base p.1 k ps (spZ G n F)
abbrev EnOk(G:Gx)(X:Cx)(k:Nat):EnBq->Prop:=EnP G X.prog X.w X.K X.mg X.base k
structure Cn(L:Lw)(tb:Tb)(G:Gx)(c:Sc)(X:Cx):Prop where
 K:X.K=G.K
 ct:G.ct=L.ct
 k2:fV G.K=θ
 sc:X.env.scope=c.sc
 N:X.N=c.N
 nd:c.N.Nodup
 calm:X.calm=θ
 room:Room (lev tb.f.length+1) X.A
 bl:∀x∈L.bl,X.mg x=ψ
 gc:∀p∈tb.gc,za G.K X.mg p.1 p.2
 cls:∀c,jx G c
 ks:∀s∈L.ks,kl G.K s
 f:∀e∈tb.f,EnOk G X (lev tb.f.length) e
 xe:X.xe=λ_ _=>False
variable{scope:J9}{e:J8}{pos cpos:Pos}{inn:Bool}{env:Env}{es:η J8}
section
variable{L:Lw}{tb:Tb}{G:Gx}{c:Sc}{X:Cx}
theorem Cn.rm(n:Cn L tb G c X):Room (lev tb.f.length) X.A:=n.room.mono (qn0 _)
theorem Cn.comp(n:Cn L tb G c X){M:η Str}{C:J4}{s:qa8}{H:Hp}{ex:η J4}(O:M.Nodup):Cn L tb G ⟨cT scope c.sc,M⟩ (cxC X M scope C s H ex):=⟨n.K,n.ct,n.k2,scC n.sc,rfl,O,n.calm,n.room,n.bl,n.gc,n.cls,n.ks,n.f,rfl⟩
omit x in
theorem BM{X:Cx}{G:Gx}{d:Dt}(h:cst e d=θ):GE G X e (eK d):=by
 cases d<;>first|exact noT h|skip
 all_goals (cases e<;>first|exact noT h|skip)
 all_goals (rename_i k _ _;cases k<;>first|exact noT h|skip)
 .exact tE zS λ_=>oC
 .obtain rfl:=beq_iff_eq.mp h;exact tE C5 λ_=>ia
 .obtain rfl:=beq_iff_eq.mp h;exact tE zR λ_=>ba
 .obtain rfl:=beq_iff_eq.mp h;exact tE zT λ_=>eI
theorem uy(n:Cn L tb G c X){i:Nat}{x:Str}(h:bQ c.sc c.N i x=θ):PE X (.Name x pos) (pY i):=pvD i h n.sc n.N
theorem uz{i:Nat}(hi:inn=ξ->∀x,X.fn x=θ)(n:Cn L tb G c X)(h:fNm c inn i e=θ):PG X e (er i):=by
 unfold fNm at h;rcases h
 rw[qa1]at h;cases inn with
 |true=>exact sW h.1 h.2 (by rw[n.N];exact n.nd) n.sc n.N
 |false=>exact sV h.1 h.2 n.nd n.sc n.N (.inl (hi rfl _))
theorem oU(hi:inn=ξ->∀x,X.fn x=θ)(n:Cn L tb G c X):∀{is:η Nat}{es:η J8},xM c inn is es=θ->PGs X es (tPs G (i8 is) is)/\(qi2 es X.env).length=is.length/\(qi2 es X.env).findIdx? (·.1)=ψ
 |[],[],_=>⟨xo,rfl,rfl⟩
 |i::is,e::es,h=>by
  rwa[xM,qa1]at h;have⟨h1,h2,U⟩:=oU hi n h.2
  have O:qi2 (e::es) X.env=(ξ,qz4 e X.env)::qi2 es X.env:=by have h:=h.1;unfold fNm at h;split at h<;>first|(cases h;done)|rfl
  refine⟨ud (uz hi n h.1) h1 (by rw[O];rfl),by rw[O];simp[h2],?_⟩;rw[O,List.findIdx?_cons];simp[U]
 |[],e::es,h=>by cases h
 |i::is,[],h=>by cases h
omit x in
theorem oV(hi:inn=ξ->∀x,X.fn x=θ)(n:Cn L tb G c X){pt:Pt}(h:fP c inn pt e=θ):GP G X e pt:=by
 cases pt with
 |one i=>exact BB (uz hi n h)
 |many is=>
  unfold fP at h;rcases h
  .rename_i O;cases O
  .rename_i O;cases O;have⟨h1,h2,U⟩:=oU hi n h;exact xp n.K n.calm h1 h2 U
theorem BN(h:nB e=θ)(O:Sem Value):isTrue e env O=(do let v <- O;qw6 e.pos;qo9 [v] (truthy v)):=by
 cases e with
 |UnaryOp op a p=>cases op<;>first|rfl|exact noT h
 |_=>first|rfl|exact noT h
theorem zk{op vs p}{t:FM Bool}(h:GT G X (.BoolOp op vs p) t):GW G X (.BoolOp op vs p) t:=λ_ J0 s σ H Q I q=>h J0 s σ H Q I q
theorem asM{o:J8}(h1:aU o=θ)(h2:es.all ax=θ)(O:es.length<30)(h4:apos.endLine=cpos.line):AsM X o m apos es cpos:=⟨base_of h1,kL h2 O,beq_iff_eq.mpr h4,λe r h=>by subst h;rwa[qd4,qa1]at h2;exact⟨aA h2.1,bf h2.2⟩⟩
theorem uA{sc:J9}{x:Str}{k m:Nat}{ps:η Str}{g:Fd}{f:J4}{fd:qm9}{d:Int}{t:Tok}{fs:FM (η CV)}{p:Pos}(h:aI sc x=θ)(F:FnOk X.prog X.w X.K X.mg X.base CX0 k f fd ps (spZ G m g))(hm:X.mg x=ς (.ref f))(hk:xD9 X.K (.ref f)=θ)(hb:Binds X.K fd ps [.int d t])(hr:Room k X.A)(ha:GA G X (e::es) fs)(e1:aY X sc)(he:qb3 (e::es) X.env=(ξ,eval e X.env)::qb3 es X.env)(Y:(qh6 cpos (qb3 es X.env)).any (·.1)=ξ):GE G X (.Call (.Name x p) (e::es) [] cpos) (eCa m g (aDf d fs)):=PE.mono (oo (dvs:=[.int d]) F hr (glD h e1) hm hk hb (.cons ⟨t,rfl⟩ .nil) hZ ha (cm h) he Y) λσ H Q O=>by have⟨Φ,δ,ch,F,ρ,c,ch',en,hf,kk⟩:=O;have⟨q,h1,U⟩:=bS hf;have⟨r,h2,e2⟩:=mS h1;subst e2;refine⟨Φ,δ,ch,F,ρ,r.1,r.2,en,h2,λvs F1 H1 ρ1 Z r1=>?_⟩;exact ij (σ:=σ) ⟨Φ,δ,r.2,F1,ρ1,r.1++[.g (.int d)],c,ch',en.adv Z,Paired.app r1 (.cons (show RelC G F1 H1 ρ1 r.2.length (.g (.int d)) (.int d)from ba (K:=G.K) (F:=F1)) .nil),U,kk.adv Z⟩
theorem zl{α:Type}{l:η α}(h:(!l.isEmpty)=θ):∃y r,l=y::r:=by cases l<;>first|exact⟨_,_,rfl⟩|cases h
theorem isYs.of{t:E}(h:isYs t=θ):t=.ys:=by cases t<;>first|rfl|exact noT h
omit x in
mutual
theorem gE:∀(a:E){c:Sc}{X:Cx}(n:Cn L tb G c X)(e:J8),fE L tb c a e=θ->GE G X e (evE tb a)
 |.k d=>λn e h=>BM h
 |.v i=>λn e h=>by
  replace h:=dxN.of h;have⟨x,p,rfl,h⟩:=h
  exact A6 (uy n h)
 |.g j=>λn e h=>by
  replace h:=dxN.of h;have⟨x,_,rfl,h⟩:=h
  have⟨h1,h⟩:=qc1.mp h;have⟨p,hp,h2⟩:=dxO.of h;obtain rfl:=beq_iff_eq.mp h2;show GE G _ _ (gcE tb.gc[j]?);rw[hp];have⟨v,hm,hv⟩:=n.gc p (qa4 hp);exact tE (sX h1 hm n.sc) hv
 |.b2 o m a b=>λn e h=>by
  have⟨r,o1,o2⟩:=o.ok G.K _ _ n.K n.rm n.k2
  replace h:(match o.op with|.inl op=>dxP e λl op' r=>decide (op'=op)&&fE L tb _ a l&&fE L tb _ b r|.inr op=>dxQ e λl op' r=>decide (op'=op)&&!behindInMarks op' r&&fE L tb _ a l&&fE L tb _ b r)=θ:=h
  cases q:o.op with
  |inl op=>
   rw[q]at o1 h
   replace h:=dxP.of h;have⟨l,op',r',p,rfl,h⟩:=h
   rwa[qa1,decide_eq_true_eq]at h;have⟨⟨rfl,h2⟩,h3⟩:=h;exact A7 o1 o2 (gE a n _ h2) (gE b n _ h3)
  |inr op=>
   rw[q]at o1 h
   replace h:=dxQ.of h;have⟨l,op',r',p,rfl,h⟩:=h
   rwa[qa1,decide_eq_true_eq,qi4]at h;have⟨⟨⟨rfl,h0⟩,h2⟩,h3⟩:=h;exact A8 o1 o2 (gE a n _ h2) (gE b n _ h3) h0
 |.nt a=>λn e h=>by
  replace h:=dxU.of h;have⟨x,p,rfl,h⟩:=h
  exact Bi (gE a n _ h)
 |.ng a=>λn e h=>by
  replace h:=dxU.of h;have⟨x,p,rfl,h⟩:=h
  exact Bj (gE a n _ h)
 |.an a b=>λn e h=>by
  replace h:=dxB.of h;obtain⟨x,y,l,p,rfl,⟨rfl,h⟩|⟨z,r,rfl,h⟩⟩:=h<;>replace h:=qc1.mp h
  .exact tL (gE a n _ h.1) (Bh (gE b n _ h.2))
  .exact tL (gE a n _ h.1) (gE b n _ h.2)
 |.cd t a b=>λn e h=>by
  replace h:=dxI.of h;have⟨x,y,z,p,rfl,h⟩:=h
  rwa[qa1]at h;exact DF (gT t n _ h.1.1) (gE a n _ h.1.2) (gE b n _ h.2)
 |.bn o m as=>λn e h=>by
  replace h:=dxF.of h;have⟨x,q,ys,p,rfl,h⟩:=h
  rwa[qa1,beq_iff_eq,qh5]at h;have⟨⟨⟨⟨⟨h0,rfl⟩,h2⟩,h3⟩,h4⟩,h5⟩:=h;have⟨y,ys,rfl⟩:=zl h0;have⟨r,o1,o2⟩:=o.ok G.K _ _ n.K n.calm n.rm;have hs:=h4;rwa[qd4,qa1]at hs;have hb:=o.bt;cases q:o.fv with
  |inl id=>rw[q]at o1 hb;exact uh h2 o1 o2 (n.bl _ h3) hb (gA as n _ h5 h4) n.sc (aA hs.1) (bf hs.2)
  |inr id=>rw[q]at o1 hb;exact ui h2 o1 o2 (n.bl _ h3) hb (gA as n _ h5 h4) n.sc (aA hs.1) (bf hs.2)
 |.ii cn a=>λn e h=>by
  replace h:=dxF.of h;have⟨f,q,ys,p,rfl,h⟩:=h
  replace h:=dxW.of h;have⟨x,u,rfl,h⟩:=h
  replace h:=dxN.of h;have⟨t,p',rfl,h⟩:=h
  rwa[qa1,beq_iff_eq,qh5]at h;have⟨⟨⟨⟨⟨⟨⟨⟨rfl,h2⟩,h3⟩,h4⟩,h5⟩,h6⟩,h7⟩,h8⟩,h9⟩:=h;exact qD n.K h2 h4 (n.bl _ h3) (n.bl _ h5) h6 (by rw[n.K];exact n.ks _ h7) (gE a n _ h9) n.sc (aA h8) (aA rfl) rfl
 |.ms o m a as=>λn e h=>by
  replace h:=dxM.of h;have⟨x,m',ap,ys,p,rfl,h⟩:=h
  rwa[qa1,beq_iff_eq,decide_eq_true_eq]at h;have⟨⟨⟨⟨⟨⟨⟨h0,rfl⟩,h2⟩,h3⟩,h4⟩,h5⟩,h6⟩,h7⟩:=h;have⟨y,ys,rfl⟩:=zl h0;have⟨r,o1,o2⟩:=o.ok G.K _ n.K;have hs:=h4;rwa[qd4,qa1]at hs;exact BD o.slot o.ty o1 o2 (gE a n _ h6) (gA as n _ h7 h4) (base_of h3) (kL h4 h5) (beq_iff_eq.mpr h2) (aA hs.1) (bf hs.2)
 |.gt a k d=>λn e h=>by
  replace h:=dxM.of h;have⟨x,m',ap,ys,p,rfl,h⟩:=h
  replace h:=dxW.of h;have⟨y,z,rfl,h⟩:=h
  rwa[qa1,beq_iff_eq]at h;have⟨⟨⟨⟨⟨⟨⟨rfl,h2⟩,h3⟩,h4⟩,h5⟩,h6⟩,h7⟩,h8⟩:=h;exact xC n.k2 n.rm (gE a n _ h6) (gE k n _ h7) (gE d n _ h8) ⟨base_of h3,kL (by simp[h4,h5]) (by show 2<30;decide),beq_iff_eq.mpr h2,by rw[aA h4,aA h5];rfl⟩
 |.ca j as=>λn e h=>by
  replace h:=dxF.of h;have⟨x,_,ys,_,rfl,h⟩:=h
  rwa[qa1]at h;have⟨⟨⟨h1,h2⟩,h3⟩,h4⟩:=h;have⟨en,hj,h1⟩:=dxO.of h1;cases en<;>try(cases h1;done)
  .rename_i y m F;obtain rfl:=beq_iff_eq.mp h1;show GE G _ _ (caE (evA tb as) tb.f[j]?);rw[hj];have⟨ps,ok⟩:=n.f _ (qa4 hj);cases ys with
   |nil=>
    have ha:evA tb as=aNl:=by cases as<;>first|rfl|exact noT h4
    rw[ha];exact tO h2 ok n.rm n.sc
   |cons y ys=>have hs:=h3;rwa[qd4,qa1]at hs;exact xb h2 ok n.rm (gA as n _ h4 h3) n.sc (aA hs.1) (bf hs.2)
  .rename_i y m d F;have⟨h1,h5⟩:=qc1.mp h1;obtain rfl:=beq_iff_eq.mp h1;show GE G _ _ (caE (evA tb as) tb.f[j]?);rw[hj];have⟨ps,f,fd,t,q1,q2,q3,q4⟩:=n.f _ (qa4 hj);cases ys with
   |nil=>cases h5
   |cons z ys=>have hs:=h3;rwa[qd4,qa1]at hs;exact uA h2 q4 q1 q2 q3 n.rm (gA as n _ h4 h3) n.sc (aA hs.1) (bf hs.2)
 |.me j o as=>λn e h=>by
  replace h:=dxM.of h;have⟨x,m,ap,ys,p,rfl,h⟩:=h
  rwa[qa1,beq_iff_eq,decide_eq_true_eq]at h;have⟨⟨⟨⟨⟨⟨h1,h2⟩,h3⟩,h4⟩,h5⟩,h6⟩,h7⟩:=h;have⟨en,hj,h1⟩:=dxO.of h1;cases en<;>try(cases h1;done)
  rename_i cl y k F;have⟨h1,h8⟩:=qc1.mp h1;obtain rfl:=beq_iff_eq.mp h1;have⟨q,hq,h8⟩:=dxO.of h8;rw[<- n.ct]at hq;have hm:y∉q.2:=by simpa[qh5] using h8
  show GE G _ _ (meE (evE tb o) (evA tb as) tb.f[j]?);rw[hj];have⟨ps,ok⟩:=n.f _ (qa4 hj) q hq;have⟨pl,he⟩:=qX (m:=y) h3 h4 h5 (beq_iff_eq.mpr h2);cases ys with
  |nil=>
   have ha:evA tb as=aNl:=by cases as<;>first|rfl|exact noT h7
   rw[ha];exact tR n.K hq hm ok n.rm (gE o n _ h6) he
  |cons z ys=>have hs:=h4;rwa[qd4,qa1]at hs;exact xc n.K hq hm ok n.rm (gE o n _ h6) (gA as n _ h7 h4) (aA hs.1) (bf hs.2) he
 |.mk j as=>λn e h=>by
  replace h:=dxF.of h;have⟨x,_,ys,_,rfl,h⟩:=h
  rwa[qa1]at h;have⟨⟨⟨h1,h2⟩,h3⟩,h4⟩:=h;have⟨en,hj,h1⟩:=dxO.of h1;cases en<;>try(cases h1;done)
  rename_i cl k F;have⟨q,hq,h1⟩:=dxO.of h1;rw[<- n.ct]at hq;obtain rfl:=beq_iff_eq.mp h1;show GE G _ _ (mkE (evA tb as) tb.f[j]?);rw[hj];have⟨ps,ok⟩:=n.f _ (qa4 hj) q hq;cases ys with
  |nil=>
   have ha:evA tb as=aNl:=by cases as<;>first|rfl|exact noT h4
   rw[ha];exact tT n.K hq h2 ok n.room n.sc
  |cons z ys=>have hs:=h3;rwa[qd4,qa1]at hs;exact xf n.K hq h2 ok n.room (gA as n _ h4 h3) n.sc (aA hs.1) (bf hs.2)
 |.at cl f o=>λn e h=>by
  replace h:=dxA.of h;have⟨x,fn,p,rfl,h⟩:=h
  rwa[qa1]at h;have⟨⟨h1,h2⟩,h3⟩:=h;have⟨q,hq,h1⟩:=dxO.of h1;rw[<- n.ct]at hq;exact DH n.K (n.cls cl) hq (of_decide_eq_true h1) (gE o n _ h3) (base_of h2)
 |.ix a b=>λn e h=>by
  replace h:=dxS.of h;have⟨x,y,p,rfl,h⟩:=h
  rwa[qa1]at h;exact DG n.K n.k2 n.rm (gE a n _ h.1.2) (gE b n _ h.2) (nA h.1.1)
 |.sl m a lo hi=>λn e h=>by
  replace h:=dxS.of h;have⟨x,y,p,rfl,h⟩:=h
  replace h:=dxZ.of h;have⟨l,u,p',rfl,h⟩:=h
  rwa[qa1]at h;exact ug n.K (gE a n _ h.1.1) (gO lo n _ h.1.2) (gO hi n _ h.2)
 |.ls m as=>λn e h=>by
  replace h:=dxL.of h;have⟨ys,p,rfl,h⟩:=h
  have h:=qc1.mp h;exact Bp (gA as n _ h.2 h.1)
 |.tu as=>λn e h=>by
  replace h:=dxT.of h;have⟨ys,q,p,rfl,h⟩:=h
  have h:=qc1.mp h;exact Bq (gA as n _ h.2 h.1)
 |.dn m t=>λn e h=>by have⟨p,rfl⟩:=dxD.of h;exact xy
 |.il m a=>λn e h=>by
  replace h:=dxF.of h;have⟨x,_,ys,_,rfl,h⟩:=h
  replace h:=dxV.of h;have⟨z,rfl,h⟩:=h
  replace h:=dxM.of h;have⟨y,m',ap,zs,cp,rfl,h⟩:=h
  rwa[qa1,beq_iff_eq,qh5,qg2]at h;have⟨⟨⟨⟨⟨⟨⟨rfl,rfl⟩,h2⟩,h3⟩,rfl⟩,h5⟩,h6⟩,h7⟩:=h;exact BI n.K h2 n.calm (n.bl _ h3) (gE a n _ h7) n.sc (base_of h6) (beq_iff_eq.mpr h5)
 |.pp a b=>λn e h=>by
  replace h:=dxM.of h;have⟨y,m',ap,ys,cp,rfl,h⟩:=h
  replace h:=dxV.of h;have⟨z,rfl,h⟩:=h
  rwa[qa1,beq_iff_eq]at h;have⟨⟨⟨⟨⟨rfl,h2⟩,h3⟩,h4⟩,h5⟩,h6⟩:=h;exact BJ (gE a n _ h5) (gE b n _ h6) (asM h3 (by simp[h4]) (by show 1<30;decide) h2)
 |.dc m a=>λn e h=>by
  replace h:=dxF.of h;have⟨x,_,ys,_,rfl,h⟩:=h
  replace h:=dxV.of h;have⟨y,rfl,h⟩:=h
  rwa[qa1,beq_iff_eq,qh5]at h;have⟨⟨⟨⟨rfl,h2⟩,h3⟩,h4⟩,h5⟩:=h;exact xL h2 n.K n.calm (n.bl _ h3) (gE a n _ h5) n.sc (aA h4)
 |.co m src pt it t a=>λn e h=>by
  replace h:=dxK.of h;have⟨elt,tg,iter,ifs,scope,p,rfl,h⟩:=h
  rwa[qa1,qf0]at h;have⟨⟨⟨⟨⟨⟨h2,h3⟩,h4⟩,h5⟩,h6⟩,h7⟩,h8⟩:=h;have S:=CmpScope.of h2;refine xt (pt:=pt) (by rw[n.N,n.sc];exact S) n.calm (gI it n _ _ h3) (λnd C s H ex=>oV (inn:=true) (nofun) (n.comp nd) h5) (λC s H ex=>?_) (λC s H ex=>gE a (n.comp S.nd) _ h8) h6 (kJ h4);obtain h7|h7:=h7
  .obtain rfl:=qg2.mp h7.1;obtain rfl:=isYs.of h7.2;exact oN
  .have⟨x,rfl,h7⟩:=dxV.of h7;exact oO (gT t (n.comp S.nd) _ h7)
 |.tr _|.tn _|.ta _ _|.to _ _|.no|.ys|.it _|.rg _|.en _|.nil|.cons _ _=>λ_ _ h=>noT h
theorem gO:∀(a:E){c:Sc}{X:Cx}(n:Cn L tb G c X)(e:ζ J8),fO L tb c a e=θ->PO X e (tM G RO (fOp (evO tb a)))
 |.no=>λn o h=>by obtain rfl:=qh0.mp h;exact xw
 |.cons a b=>λn o h=>by have⟨e,rfl,h⟩:=dxO.of h;exact xx (gE a n e h)
 |.k _|.v _|.g _|.b2 _ _ _ _|.nt _|.ng _|.an _ _|.cd _ _ _|.tr _|.tn _|.ta _ _|.to _ _|.bn _ _ _|.ii _ _|.ms _ _ _ _|.gt _ _ _|.ca _ _|.me _ _ _|.mk _ _|.at _ _ _|.ix _ _|.sl _ _ _ _|.ls _ _|.tu _|.dn _ _|.il _ _|.pp _ _|.dc _ _|.co _ _ _ _ _ _|.ys|.it _|.rg _|.en _|.nil=>λ_ _ h=>noT h
theorem gT:∀(a:E){c:Sc}{X:Cx}(n:Cn L tb G c X)(e:J8),fT L tb c a e=θ->GT G X e (evT tb a)
 |.tr a=>λn e h=>by
  replace h:(if nB e then zj a&&fE L tb _ a e else fTr L tb _ a e)=θ:=h
  split at h
  .rename_i hp;rw[qa1]at h;have ha:evT tb (.tr a)=gm (evE tb a):=by cases a<;>first|rfl|exact noT h.1
   rw[ha];exact Ba n.K (gE a n e h.2) (BN hp)
  .exact gTr a n e h
 |.tn a=>λn e h=>by
  replace h:=dxU.of h;have⟨x,p,rfl,h⟩:=h
  exact Bb (gT a n _ h)
 |.ta a b=>λn e h=>by
  replace h:=dxB.of h;obtain⟨x,y,l,p,rfl,⟨rfl,h⟩|⟨z,r,rfl,h⟩⟩:=h<;>replace h:=qc1.mp h
  .exact(tH (gT a n _ h.1) (w8 (gT b n _ h.2))).t
  .exact(tH (gT a n _ h.1) (zk (gT b n _ h.2))).t
 |.to a b=>λn e h=>by
  replace h:=dxB.of h;obtain⟨x,y,l,p,rfl,⟨rfl,h⟩|⟨z,r,rfl,h⟩⟩:=h<;>replace h:=qc1.mp h
  .exact(zb (gT a n _ h.1) (Bg (gT b n _ h.2))).t
  .exact(zb (gT a n _ h.1) (zk (gT b n _ h.2))).t
 |.no|.cons _ _|.k _|.v _|.g _|.b2 _ _ _ _|.nt _|.ng _|.an _ _|.cd _ _ _|.bn _ _ _|.ii _ _|.ms _ _ _ _|.gt _ _ _|.ca _ _|.me _ _ _|.mk _ _|.at _ _ _|.ix _ _|.sl _ _ _ _|.ls _ _|.tu _|.dn _ _|.il _ _|.pp _ _|.dc _ _|.co _ _ _ _ _ _|.ys|.it _|.rg _|.en _|.nil=>λ_ _ h=>noT h
theorem gTr:∀(a:E){c:Sc}{X:Cx}(n:Cn L tb G c X)(e:J8),fTr L tb c a e=θ->GT G X e (evT tb (.tr a))
 |.b2 o m a b=>λn e h=>by
  have⟨r,o1,o2⟩:=o.ok G.K _ _ n.K n.rm n.k2
  replace h:=dxQ.of h;have⟨l,op,r',p,rfl,h⟩:=h
  rwa[qa1,decide_eq_true_eq,qi4]at h;have⟨⟨⟨h1,h0⟩,h2⟩,h3⟩:=h;rw[h1]at o1;exact A9 o1 o2 (gE a n _ h2) (gE b n _ h3) h0
 |.no|.cons _ _|.k _|.v _|.g _|.nt _|.ng _|.an _ _|.cd _ _ _|.bn _ _ _|.ii _ _|.ms _ _ _ _|.gt _ _ _|.ca _ _|.me _ _ _|.mk _ _|.at _ _ _|.ix _ _|.sl _ _ _ _|.ls _ _|.tu _|.dn _ _|.il _ _|.pp _ _|.dc _ _|.co _ _ _ _ _ _|.ys|.it _|.rg _|.en _|.nil|.tr _|.tn _|.ta _ _|.to _ _=>λ_ _ h=>noT h
theorem gA:∀(a:E){c:Sc}{X:Cx}(n:Cn L tb G c X)(es:η J8),fA L tb c a es=θ->es.all ax=θ->GA G X es (evA tb a)
 |.nil=>λn es h _=>by obtain rfl:=qg2.mp h;exact Bk
 |.cons a as=>λn es h hs=>by
  obtain _|⟨e,es⟩:=es
  .cases h
  have h:=qc1.mp h;rwa[qd4,qa1]at hs;exact w9 (gE a n e h.1) (gA as n es h.2 hs.2) (aA hs.1)
 |.no|.k _|.v _|.g _|.b2 _ _ _ _|.nt _|.ng _|.an _ _|.cd _ _ _|.bn _ _ _|.ii _ _|.ms _ _ _ _|.gt _ _ _|.ca _ _|.me _ _ _|.mk _ _|.at _ _ _|.ix _ _|.sl _ _ _ _|.ls _ _|.tu _|.dn _ _|.il _ _|.pp _ _|.dc _ _|.co _ _ _ _ _ _|.ys|.it _|.rg _|.en _|.tr _|.tn _|.ta _ _|.to _ _=>λ_ _ h _=>noT h
theorem gI:∀(a:E){c:Sc}{X:Cx}(n:Cn L tb G c X)(tg e:J8),fI L tb c a tg e=θ->GI G X tg e (evI tb a)
 |.it a=>λn tg e h=>gi_e n.K (gE a n e h)
 |.rg as=>λn tg e h=>by
  replace h:=dxF.of h;have⟨x,_,ys,_,rfl,h⟩:=h
  rwa[qa1,beq_iff_eq,decide_eq_true_eq,qh5]at h;have⟨⟨⟨⟨⟨⟨⟨h1,h2⟩,h3⟩,h4⟩,h5⟩,h6⟩,h7⟩,h8⟩:=h;subst h1;show GI G _ _ _ (iR (uw as) (evA tb as));rw[<- h5];have ga:=gA as n _ h8 h4
  match ys,h4,h6,h7,ga with
  |[x],h4,_,_,ga=>rwa[qd4,qa1]at h4;exact qz h2 (n.bl _ h3) ga n.sc (aA h4.1)
  |_::_::_,_,_,h7,_=>simp at h7
 |.en a=>λn tg e h=>by
  replace h:=qc1.mp h
  have⟨h0,h⟩:=h
  replace h:=dxF.of h;have⟨x,_,ys,_,rfl,h⟩:=h
  replace h:=dxV.of h;have⟨y,rfl,h⟩:=h
  rwa[qa1,beq_iff_eq,qh5]at h;have⟨⟨⟨⟨rfl,h2⟩,h3⟩,h4⟩,h5⟩:=h;cases tg with
  |Tuple es k p=>exact xq n.K h2 (n.bl _ h3) (gE a n _ h5) n.sc (aA h4)
  |_=>cases h0
 |.no|.cons _ _|.k _|.v _|.g _|.b2 _ _ _ _|.nt _|.ng _|.an _ _|.cd _ _ _|.bn _ _ _|.ii _ _|.ms _ _ _ _|.gt _ _ _|.ca _ _|.me _ _ _|.mk _ _|.at _ _ _|.ix _ _|.sl _ _ _ _|.ls _ _|.tu _|.dn _ _|.il _ _|.pp _ _|.dc _ _|.co _ _ _ _ _ _|.ys|.nil|.tr _|.tn _|.ta _ _|.to _ _=>λ_ _ _ h=>noT h
end
end
noncomputable def isLC:J8->Bool
 |.ListComp _ _ _ _=>θ
 |_=>ξ
noncomputable def swB(c:Sc)(x:Str)(p:Pos):J8->Bool
 |.ListComp _ _ scope q=>decide (c.sc.names.lookup x=ς .local)&&(p.line==q.line)&&!(scope.names.any λ(n,k)=>n==x&&(k==.local||k==.cell))
 |_=>ξ
section
variable{st:J6}
noncomputable def dsA(st:J6)(k:J8->J8->Bool):Bool:=match st with|.Assign ts v _=>dxV ts λt=>k t v|_=>ξ
theorem dsA.of{k:J8->J8->Bool}(h:dsA st k=θ):∃t v p,st=.Assign [t] v p/\k t v=θ:=by
 cases st with
 |Assign ts v p=>have⟨t,rfl,h⟩:=dxV.of h;exact⟨_,_,_,rfl,h⟩
 |_=>exact noT h
noncomputable def dsU(st:J6)(k:J8->qp3->J8->Bool):Bool:=match st with|.AugAssign t o v _=>k t o v|_=>ξ
theorem dsU.of{k:J8->qp3->J8->Bool}(h:dsU st k=θ):∃t o v p,st=.AugAssign t o v p/\k t o v=θ:=by cases st<;>first|exact⟨_,_,_,_,rfl,h⟩|exact noT h
noncomputable def dsX(st:J6)(k:J8->Bool):Bool:=match st with|.Expr v _=>k v|_=>ξ
theorem dsX.of{k:J8->Bool}(h:dsX st k=θ):∃v p,st=.Expr v p/\k v=θ:=by cases st<;>first|exact⟨_,_,rfl,h⟩|exact noT h
noncomputable def dsR(st:J6)(k:ζ J8->Bool):Bool:=match st with|.Return v _=>k v|_=>ξ
theorem dsR.of{k:ζ J8->Bool}(h:dsR st k=θ):∃v p,st=.Return v p/\k v=θ:=by cases st<;>first|exact⟨_,_,rfl,h⟩|exact noT h
noncomputable def dsI(st:J6)(k:J8->η J6->η J6->Bool):Bool:=match st with|.If x y z _=>k x y z|_=>ξ
theorem dsI.of{k:J8->η J6->η J6->Bool}(h:dsI st k=θ):∃x y z p,st=.If x y z p/\k x y z=θ:=by cases st<;>first|exact⟨_,_,_,_,rfl,h⟩|exact noT h
noncomputable def dsF(st:J6)(k:J8->J8->η J6->Bool):Bool:=match st with|.For t i b o _=>o.isEmpty&&k t i b|_=>ξ
theorem dsF.of{k:J8->J8->η J6->Bool}(h:dsF st k=θ):∃t i b p,st=.For t i b [] p/\k t i b=θ:=by
 cases st with
 |For t i b o p=>have⟨q,h⟩:=qc1.mp h;obtain rfl:=qg2.mp q;exact⟨_,_,_,_,rfl,h⟩
 |_=>exact noT h
noncomputable def dsW(st:J6)(k:J8->η J6->Bool):Bool:=match st with|.While x b o _=>o.isEmpty&&k x b|_=>ξ
theorem dsW.of{k:J8->η J6->Bool}(h:dsW st k=θ):∃x b p,st=.While x b [] p/\k x b=θ:=by
 cases st with
 |While x b o p=>have⟨q,h⟩:=qc1.mp h;obtain rfl:=qg2.mp q;exact⟨_,_,_,rfl,h⟩
 |_=>exact noT h
noncomputable def DQ:J8->Bool
 |.Constant (.str _) _ _=>θ
 |_=>ξ
noncomputable def dsP:J6->Bool
 |.Pass _=>θ
 |.Expr v _=>DQ v
 |_=>ξ
noncomputable def dsB:J6->Bool
 |.Break _=>θ
 |_=>ξ
noncomputable def dsC:J6->Bool
 |.Continue _=>θ
 |_=>ξ
end
mutual
def fS(L:Lw)(tb:Tb)(c:Sc):S->J6->Bool
 |.set i e,st=>dsA st λt v=>dxN t λx=>bQ c.sc c.N i x&&iX c.sc x&&fE L tb c e v&&(iu v||isLC v)
 |.un pt e,st=>dsA st λtg v=>zi tg&&fP c ξ pt tg&&iu v&&DP v&&fE L tb c e v
 |.put a k e,st=>dsA st λt v=>dxS t λo ik _=>gF ik&&fE L tb c a o&&fE L tb c k ik&&fE L tb c e v
 |.fl cl f o e,st=>dsA st λt v=>dxA t λx fn _=>(dxO L.ct[cl]? λq=>decide (q.2[f]?=ς fn))&&fE L tb c o x&&fE L tb c e v
 |.fa cl f op a e,st=>dsU st λt aop v=>dxA t λx fn _=>decide (aop=op.op)&&(dxO L.ct[cl]? λq=>decide (q.2[f]?=ς fn))&&fE L tb c a x&&fE L tb c e v
 |.au i op e,st=>dsU st λt aop v=>dxN t λx=>decide (aop=op.op)&&bQ c.sc c.N i x&&iX c.sc x&&fE L tb c e v
 |.dr e,st=>dsX st λv=>iu v&&fE L tb c e v
 |.ap a e,st=>dsX st λu=>dxM u λo m ap ys cp=>dxV ys λv=>(m==("append":Str))&&(ap.endLine==cp.line)&&aU o&&ax v&&fE L tb c a o&&fE L tb c e v
 |.aps i e,st=>dsX st λu=>dxM u λo m ap ys cp=>dxV ys λv=>dxN o λx=>(m==("append":Str))&&(ap.endLine==cp.line)&&bQ c.sc c.N i x&&ax v&&fE L tb c e v
 |.cl _ a,st=>dsX st λu=>dxM u λo m ap ys cp=>ys.isEmpty&&(m==("clear":Str))&&(ap.endLine==cp.line)&&aU o&&fE L tb c a o
 |.cls i,st=>dsX st λu=>dxM u λo m ap ys cp=>dxN o λx=>ys.isEmpty&&(m==("clear":Str))&&(ap.endLine==cp.line)&&bQ c.sc c.N i x
 |.up a e,st=>dsX st λu=>dxM u λo m ap ys cp=>dxV ys λv=>(m==("update":Str))&&(ap.endLine==cp.line)&&aU o&&ax v&&fE L tb c a o&&fE L tb c e v
 |.rt e,st=>dsR st λo=>dxO o λv=>fE L tb c e v
 |.rn,st=>dsR st λo=>o.isNone
 |.bk,st=>dsB st
 |.cd t a b,st=>dsI st λx y z=>fT L tb c t x&&fB L tb c a y&&fB L tb c b z
 |.fo pt it b,st=>dsF st λtg iter body=>fI L tb c it tg iter&&ux iter&&fP c ξ pt tg&&fB L tb c b body
 |.wh _ t b,st=>dsW st λx body=>fT L tb c t x&&fB L tb c b body
 |_,_=>ξ
def fB(L:Lw)(tb:Tb)(c:Sc):S->η J6->Bool
 |.nil,ss=>ss.isEmpty
 |.sq s r,ss=>(match ss with|st::rest=>fS L tb c s st&&fB L tb c r rest|[]=>ξ)
 |.fz _ r,ss=>fB L tb c r ss
 |_,_=>ξ
end
variable{gs:η Comprehension}{q:Pos}
section
variable{L:Lw}{tb:Tb}{G:Gx}{c:Sc}{X:Cx}
theorem swA{x:Str}{o:J8}{p:Pos}{n:Nat}:qi0 e (ς (.Attribute o x p)) n env=pure ξ:=by cases e<;>rfl
theorem swS{o i:J8}{p:Pos}{n:Nat}:qi0 e (ς (.Subscript o i p)) n env=pure ξ:=by cases e<;>rfl
theorem asS{o ik:J8}{pos':Pos}(h:gF ik=θ):AsS X o ik e pos pos':=⟨by unfold qu5;exact swS,by cases e<;>rfl,rfl,λv=>by cases ik<;>first|rfl|cases h⟩
theorem xN{x:Str}{p:Pos}{n:Nat}(O:env.scope.kind=.function)(hs:env.scope=c.sc)(h:swB c x p (.ListComp e gs scope q)=θ):qi0 (.ListComp e gs scope q) (ς (.Name x p)) n env=pure θ:=by
 unfold swB at h;rwa[qa1,decide_eq_true_eq,beq_iff_eq]at h;show(pure (env.blockKind==.function&&env.kindOf x==ς .local&&p.line==q.line&&!(scope.names.any λ(n,k)=>n==x&&(k==.local||k==.cell))):Sem Bool)=pure θ;have h1:env.blockKind=.function:=by unfold Env.blockKind;rw[O];rfl
 have h2:env.kindOf x=ς .local:=by unfold Env.kindOf;rw[hs];exact h.1.1
 rw[h1,h2,h.1.2,h.2];simp
theorem uB{x:Str}{p:Pos}{n:Nat}(hs:env.scope=c.sc)(h:swB c x p (.ListComp e gs scope q)=ξ):qi0 (.ListComp e gs scope q) (ς (.Name x p)) n env=pure ξ:=by
 show(pure (env.blockKind==.function&&env.kindOf x==ς .local&&p.line==q.line&&!(scope.names.any λ(n,k)=>n==x&&(k==.local||k==.cell))):Sem Bool)=pure ξ;congr 1;have h:(decide (c.sc.names.lookup x=ς .local)&&(p.line==q.line)&&!(scope.names.any λ(n,k)=>n==x&&(k==.local||k==.cell)))=ξ:=h;have h2:(env.kindOf x==ς .local)=decide (c.sc.names.lookup x=ς .local):=by unfold Env.kindOf;rw[hs];by_cases q:c.sc.names.lookup x=ς .local<;>simp[q]
 rw[h2,qx1,qx1,<- qx1 (decide _),h,zd1]
mutual
theorem gS(hf:∀x,X.fn x=θ)(hk:X.env.scope.kind=.function)(n:Cn L tb G c X):∀(a:S)(st:J6),fS L tb c a st=θ->GS1 G X st (evS tb a)
 |.set i e=>λst h=>by
  replace h:=dsA.of h;have⟨t,v,q,rfl,h⟩:=h
  replace h:=dxN.of h;have⟨x,p,rfl,h⟩:=h
  rwa[qa1,qf0]at h;have⟨⟨⟨h1,h2⟩,h3⟩,h4⟩:=h;by_cases hc:iu v=θ
  .exact tV h1 h2 n.nd (gE e n v h3) n.sc n.N (.inl (hf x)) (iw hc)
  .have h4:=h4.resolve_left hc;cases v with
   |ListComp elt gs scope vp=>
    cases hw:swB c x p (.ListComp elt gs scope vp)with
    |false=>exact tV h1 h2 n.nd (gE e n _ h3) n.sc n.N (.inl (hf x)) (uB n.sc hw)
    |true=>
     cases e with
     |co m src pt it t a=>
      have⟨_,tg,iter,ifs,_,_,e1,h3⟩:=dxK.of h3;cases e1;rwa[qa1,qf0]at h3;have⟨⟨⟨⟨⟨⟨q2,q3⟩,q4⟩,q5⟩,q6⟩,q7⟩,q8⟩:=h3;have S:=CmpScope.of q2;refine xu (pt:=pt) h1 h2 n.nd n.sc n.N (.inl (hf x)) (by rw[n.N,n.sc];exact S) n.calm (gI it n _ _ q3) (λnd C s H ex=>oV (inn:=true) nofun (n.comp nd) q5) (λC s H ex=>?_) (λC s H ex=>gE a (n.comp S.nd) _ q8) q6 (kJ q4) (xN hk n.sc hw);obtain q7|q7:=q7
      .obtain rfl:=qg2.mp q7.1;obtain rfl:=isYs.of q7.2;exact oN
      .have⟨x,rfl,q7⟩:=dxV.of q7;exact oO (gT t (n.comp S.nd) _ q7)
     |b2 o _ _ _=>
      replace h3:(match o.op with|.inl _=>ξ|.inr _=>ξ)=θ:=h3
      cases q:o.op<;>rw[q]at h3<;>exact noT h3
     |k d=>cases d<;>exact noT h3
     |_=>exact noT h3
   |_=>cases h4
 |.un pt e=>λst h=>by
  replace h:=dsA.of h;have⟨tg,v,q,rfl,h⟩:=h
  rwa[qa1]at h;have⟨⟨⟨⟨h1,h2⟩,h3⟩,h4⟩,h5⟩:=h;refine BH (gE e n v h5) (oV (λ_=>hf) n h2) (by unfold qu5;exact iw h3) ?_ (by cases tg<;>first|rfl|cases h1);cases tg with
  |Tuple ts k p=>cases v<;>first|rfl|cases h4
  |_=>cases h1
 |.put a k e=>λst h=>by
  replace h:=dsA.of h;have⟨t,v,q,rfl,h⟩:=h
  replace h:=dxS.of h;have⟨o,ik,p,rfl,h⟩:=h
  rwa[qa1]at h;exact BE n.k2 n.rm (gE a n _ h.1.1.2) (gE k n _ h.1.2) (gE e n _ h.2) (asS h.1.1.1)
 |.fl cl f o e=>λst h=>by
  replace h:=dsA.of h;have⟨t,v,q,rfl,h⟩:=h
  replace h:=dxA.of h;have⟨x,fn,p,rfl,h⟩:=h
  rwa[qa1]at h;have⟨⟨h1,h2⟩,h3⟩:=h;have⟨q,hq,h1⟩:=dxO.of h1;rw[<- n.ct]at hq;exact BF n.K (n.cls cl) hq (of_decide_eq_true h1) (gE o n _ h2) (gE e n _ h3) swA
 |.fa cl f op a e=>λst h=>by
  replace h:=dsU.of h;have⟨t,aop,v,q,rfl,h⟩:=h
  replace h:=dxA.of h;have⟨x,fn,p,rfl,h⟩:=h
  rwa[qa1,decide_eq_true_eq]at h;have⟨⟨⟨rfl,h1⟩,h2⟩,h3⟩:=h;have⟨q,hq,h1⟩:=dxO.of h1;rw[<- n.ct]at hq;exact qE n.K (n.cls cl) hq (of_decide_eq_true h1) (op.ok X) (gE a n _ h2) (gE e n _ h3)
 |.au i op e=>λst h=>by
  replace h:=dsU.of h;have⟨t,aop,v,q,rfl,h⟩:=h
  replace h:=dxN.of h;have⟨x,p,rfl,h⟩:=h
  rwa[qa1,decide_eq_true_eq]at h;have⟨⟨⟨h0,h1⟩,h2⟩,h3⟩:=h;subst h0;exact BG h1 h2 n.nd (op.ok X) (gE e n _ h3) n.sc n.N (.inl (hf _))
 |.dr e=>λst h=>by
  replace h:=dsX.of h;have⟨v,p,rfl,h⟩:=h
  replace h:=qc1.mp h
  exact xh (gE e n _ h.2) (iw h.1)
 |.ap a e=>λst h=>by
  replace h:=dsX.of h;have⟨u,p,rfl,h⟩:=h
  replace h:=dxM.of h;have⟨o,m,ap,ys,cp,rfl,h⟩:=h
  replace h:=dxV.of h;have⟨v,rfl,h⟩:=h
  rwa[qa1,beq_iff_eq]at h;have⟨⟨⟨⟨⟨h1,h2⟩,h3⟩,h4⟩,h5⟩,h6⟩:=h;subst h1;exact qF (gE a n _ h5) (gE e n _ h6) (asM h3 (by simp[h4]) (by show 1<30;decide) h2) rfl
 |.aps i e=>λst h=>by
  replace h:=dsX.of h;have⟨u,p,rfl,h⟩:=h
  replace h:=dxM.of h;have⟨o,m,ap,ys,cp,rfl,h⟩:=h
  replace h:=dxV.of h;have⟨v,rfl,h⟩:=h
  replace h:=dxN.of h;have⟨x,p',rfl,h⟩:=h
  rwa[qa1,beq_iff_eq]at h;have⟨⟨⟨⟨h1,h2⟩,h3⟩,h4⟩,h5⟩:=h;subst h1;exact nu (uy n h3) (gE e n _ h5) (asM rfl (by simp[h4]) (by show 1<30;decide) h2) rfl
 |.cl t a=>λst h=>by
  replace h:=dsX.of h;have⟨u,p,rfl,h⟩:=h
  replace h:=dxM.of h;have⟨o,m,ap,ys,cp,rfl,h⟩:=h
  rwa[qa1,beq_iff_eq,qg2]at h;have⟨⟨⟨⟨rfl,rfl⟩,h2⟩,h3⟩,h4⟩:=h;exact uu (gE a n _ h4) (base_of h3) (beq_iff_eq.mpr h2) rfl
 |.cls i=>λst h=>by
  replace h:=dsX.of h;have⟨u,p,rfl,h⟩:=h
  replace h:=dxM.of h;have⟨o,m,ap,ys,cp,rfl,h⟩:=h
  replace h:=dxN.of h;have⟨x,p',rfl,h⟩:=h
  rwa[qa1,beq_iff_eq,qg2]at h;have⟨⟨⟨rfl,rfl⟩,h2⟩,h3⟩:=h;exact qS (uy n h3) (base_of rfl) (beq_iff_eq.mpr h2) rfl
 |.up a e=>λst h=>by
  replace h:=dsX.of h;have⟨u,p,rfl,h⟩:=h
  replace h:=dxM.of h;have⟨o,m,ap,ys,cp,rfl,h⟩:=h
  replace h:=dxV.of h;have⟨v,rfl,h⟩:=h
  rwa[qa1,beq_iff_eq]at h;have⟨⟨⟨⟨⟨h1,h2⟩,h3⟩,h4⟩,h5⟩,h6⟩:=h;subst h1;exact qU (gE a n _ h5) (gE e n _ h6) (asM h3 (by simp[h4]) (by show 1<30;decide) h2) rfl
 |.rt e=>λst h=>by
  replace h:=dsR.of h;have⟨o,p,rfl,h⟩:=h
  replace h:=dxO.of h;have⟨v,rfl,h⟩:=h
  exact Bv (gE e n _ h)
 |.rn=>λst h=>by
  replace h:=dsR.of h;have⟨o,p,rfl,h⟩:=h
  obtain rfl:=qh0.mp h;exact xi
 |.bk=>λst h=>by cases st<;>first|exact tU|cases h
 |.cd t a b=>λst h=>by
  replace h:=dsI.of h;have⟨x,y,z,p,rfl,h⟩:=h
  rwa[qa1]at h;exact DI (gT t n _ h.1.1) (gB hf hk n a _ h.1.2) (gB hf hk n b _ h.2)
 |.fo pt it b=>λst h=>by
  replace h:=dsF.of h;have⟨tg,iter,body,p,rfl,h⟩:=h
  rwa[qa1]at h;have⟨⟨⟨h1,h2⟩,h3⟩,h4⟩:=h;exact BC (by rw[n.xe];exact zb1.never) n.calm (gI it n _ _ h1) (oV (λ_=>hf) n h3) (gB hf hk n b _ h4) (kJ h2)
 |.wh m t b=>λst h=>by
  replace h:=dsW.of h;have⟨x,body,p,rfl,h⟩:=h
  replace h:=qc1.mp h
  exact uf m (by rw[n.xe];exact zb1.never) (gT t n _ h.1) (gB hf hk n b _ h.2)
 |.nil|.sq _ _|.fz _ _=>λ_ h=>noT h
theorem gB(hf:∀x,X.fn x=θ)(hk:X.env.scope.kind=.function)(n:Cn L tb G c X):∀(a:S)(ss:η J6),fB L tb c a ss=θ->GS G X ss (evS tb a)
 |.nil=>λss h=>by
  cases ss with
  |nil=>exact Bt
  |cons _ _=>cases h
 |.sq s r=>λss h=>by
  cases ss<;>try(cases h;done)
  replace h:=qc1.mp h
  exact xg (gS hf hk n s _ h.1) (gB hf hk n r _ h.2)
 |.fz i r=>λss h=>Bu (gB hf hk n r ss h)
 |.set _ _|.un _ _|.put _ _ _|.fl _ _ _ _|.fa _ _ _ _ _|.au _ _ _|.dr _|.ap _ _|.aps _ _|.cl _ _|.cls _|.up _ _|.rt _|.rn|.bk|.cd _ _ _|.fo _ _ _|.wh _ _ _=>λ_ h=>noT h
end
end
end L2
namespace L2
open PySem PySem.Spec PyProof.Rows
noncomputable def cP(m:Nat)(g:Fs):Fd:=λcs ch=>match g (cs.map ς++qb0 (m-cs.length) ψ) ch with
 |some (.rt c ch')=>ς (c,ch')
 |some (.nx _ ch')=>ς (.g .non,ch')
 |_=>ψ
variable{ch:CH}{cs:η CV}{vs:η V}{N:η Str}
theorem l6{G:Gx}{F H:Hp}{ρ:Nat->J4}(g:Gh G F H ρ ch)(r:RelCs G F H ρ ch.length cs vs)(U:∀t,CV.own θ t∉cs):Ge G ⟨F,H,ρ,ch⟩ (cs.map ς++qb0 (N.length-cs.length) ψ) ch (dD N vs) F H ρ:=by
 have hl:=Paired.length r
 have O:∀(i:Nat)(c:CV),(cs.map ς++qb0 (N.length-cs.length) ψ)[i]?=ς (ς c)->cs[i]?=ς c:=λi c h=>by
  by_cases hi:i<cs.length
  .rw[qi5 ‹hi›,qa9]at h;have⟨x,h1,h2⟩:=mS h;cases h2;exact h1
  .rw[qe1 ‹hi›]at h;have:=qa4 h;rw[List.mem_replicate]at this;cases this.2
 refine⟨.refl g,by simp[dD,hl],λi c h=>?_,λi t a h=>absurd (qa4 (O i _ h)) (U t),λi j t u b a _ h=>absurd (qa4 (O i _ h)) (U t)⟩;have⟨v,h1,h2⟩:=Paired.get r (O i c h);refine⟨v,?_,h2⟩;unfold dD;rw[qi5 ‹aj h1›,qa9,h1];rfl
noncomputable def eS(p:Arguments):Bool:=p.posonlyargs.isEmpty&&p.vararg.isNone&&p.kwonlyargs.isEmpty&&p.kwarg.isNone&&decide (p.args.map (·.arg)).Nodup
variable{ns:η Str}
theorem iy:∀{us:η Value},ns.Nodup->us.length=ns.length->ns.filterMap (λn=>((ns.zip us).lookup n).map λv=>(n,v))=ns.zip us:=by
 suffices H:∀(ns:η Str)(us:η Value)(O:η (Str×Value)),ns.Nodup->us.length=ns.length->(∀n∈ns,O.lookup n=ψ)->ns.filterMap (λn=>((O++ns.zip us).lookup n).map λv=>(n,v))=ns.zip us from λ{us} W hl=>H ns us [] W hl λ_ _=>rfl
 intro ns;induction ns with
 |nil=>intro us O _ _ _;rfl
 |cons n ns ih=>
  intro us O W hl hp;cases us with
  |nil=>cases hl
  |cons u us=>
   have U:=qc8.mp W
   have Z:(O++(n,u)::ns.zip us).lookup n=ς u:=by rw[qw5,hp n qi9];simp[qh3]
   rwa[qn9,qq1,Z,qb2];congr 1
   have:=ih us (O++[(n,u)]) U.2 ‹hl› λm Y=>by
    rw[qw5,hp m (qe4 _ Y)];have:(m==n)=ξ:=by simpa using λe=>U.1 (by rw[<- e];exact Y)
    simp[qh3,this]
   rw[qd8]at this;exact this
theorem nC{fd:qm9}(hp:eS fd.params=θ)(hd:fd.defaults=.none){us:η Value}(hl:us.length=fd.params.args.length):zd9 fd ⟨us,[]⟩=pure ((fd.params.args.map (·.arg)).zip us):=by
 unfold eS at hp;rwa[qa1,decide_eq_true_eq,qg2,qh0]at hp;have⟨⟨⟨⟨h1,h2⟩,h3⟩,h4⟩,h5⟩:=hp;have hz:=iy (us:=us) h5 ‹hl›;have hs:seqItems? qg8=(pure ψ:Sem (ζ (Array Value))):=rfl
 have hm:((fd.params.args.map (·.arg)).filter λn=>((((fd.params.args.map (·.arg)).zip us).lookup n)).isNone)=[]:=by
  rw[za6];intro n hn Y;rw[qh0]at Y;have Z:n∈((fd.params.args.map (·.arg)).zip us).map (·.1):=by rw[qu2 (by simp[hl])];exact hn
  rw[<- hz]at Z;have⟨⟨a,b⟩,h8,h9⟩:=qb8.mp Z;have⟨m,_,U⟩:=qv9.mp h8;have⟨v,O,W⟩:=mS U;cases W;cases h9;rw[Y]at O;cases O
 have⟨nm,qn,⟨po,as,va,ko,kd,ka,df⟩,bd,sc,gl,cl,dfs,kdf,doc,pm,an,cd,ct,bi⟩:=fd;simp only at h1 h2 h3 h4 hd hl hm hz ⊢;subst h1 h2 h3 h4 hd;unfold zd9;have hl:us.length=(as.map (·.arg)).length:=‹hl›
 rwa[qg0,qm5,qf6,hs,qy5,qz6,qx6];clear h5;generalize as.map (·.arg)=ns at*
 have e1:List.drop (0-ns.length) ([]:η Value)=[]:=List.drop_nil;have e2:ns.take ns.length=ns:=List.take_length;have e3:¬ (us.length > ns.length):=by lia
 rwa[List.toList_toArray,qf9,e1,Nat.sub_zero,e2,hm,List.isEmpty_nil,ze5,qg6,if_false,qu1,List.zip_nil_right,qx6,qy5,hz,decide_eq_false e3,zd0]
noncomputable def nE(K:xA9)(fd:qm9):ζ Value:=match fd.defaults with
 |.ref T=>(match K.lookup T with
  |some o=>(match o.data with
   |.seq J3 _=>(match J3.toList with
    |[v]=>ς v
    |_=>ψ)
   |_=>ψ)
  |none=>ψ)
 |_=>ψ
theorem l7{x:Str}:∀{us:η Value},x∉ns->(ns.zip us).lookup x=ψ:=by
 induction ns with
 |nil=>intro us _;rfl
 |cons n ns O=>
  intro us h;cases us with
  |nil=>rfl
  |cons u us=>
   rwa[qb9,not_or]at h;have:(x==n)=ξ:=‹h.1›
   rwa[qn9,qh3,this];exact O h.2
theorem l8{x:Str}{u:Value}:∀{us:η Value},x∉ns->us.length=ns.length->((ns++[x]).zip (us++[u])).lookup x=ς u:=by
 induction ns with
 |nil=>intro us _ hl;cases us<;>first|(cases hl;done)|simp[qh3]
 |cons n ns O=>
  intro us h hl;cases us with
  |nil=>cases hl
  |cons w us=>
   rwa[qb9,not_or]at h;have:(x==n)=ξ:=‹h.1›
   rwa[qp8,qn9,qh3,this];exact O h.2 ‹hl›
variable{K:xA9}
omit x in
theorem l9{s:qa8}{fd:qm9}{v:Value}(hp:eS fd.params=θ)(U:nE K fd=ς v)(X:K.In s.heap){us:η Value}{x:Str}(W:fd.params.args.map (·.arg)=ns++[x]){vs:η Value}(O:vs.length=(ns++[x]).length)(hu:us=vs\/vs=us++[v]):zf8 s fd ⟨us,[]⟩ ((ns++[x]).zip vs):=by
 unfold nE at U;rcases U
 rename_i T hT;rcases U
 rename_i o ho;rcases U
 rename_i J3 n hs;split at U<;>cases U
 rename_i hi;unfold eS at hp;rwa[qa1,decide_eq_true_eq,qg2,qh0]at hp;have⟨⟨⟨⟨h1,h2⟩,h3⟩,h4⟩,h5⟩:=hp;rw[W]at h5;have hz:=iy (us:=vs) h5 O;have Z:x∉ns:=λz=>(qf4.mp h5).2.2 x z x Ξ rfl
 have hm:(ns.filter λn=>((((ns++[x]).zip us).lookup n)).isNone)=[]:=by
  rw[za6];intro n W he;rw[qh0]at he;have h7:n∈(ns.zip vs).map (·.1):=by rw[qu2 (by simp at O;lia)];exact W
  have e1:((ns++[x]).zip us).lookup n=(ns.zip vs).lookup n:=by
   rcases hu with rfl|rfl
   .obtain⟨a,b,rfl⟩:∃a b,us=a++[b]:=⟨us.dropLast,us.getLast (by intro z;subst z;simp at O),(qo0 _).symm⟩;have hl:a.length=ns.length:=‹O›
    have hnx:(n==x)=ξ:=by simpa using λe=>Z (by rw[<- e];exact W)
    rw[qo4 Θ,qw5]
    have e2:ns.zip (a++[b])=ns.zip a:=by have:=qo4 (l₁:=ns) (r₁:=([]:η Str)) (l₂:=a) (r₂:=[b]) Θ;simpa using this
    rw[e2];simp[qh3,hnx]
   .have hl:us.length=ns.length:=‹O›
    have e2:ns.zip (us++[v])=ns.zip us:=by have:=qo4 (l₁:=ns) (r₁:=([]:η Str)) (l₂:=us) (r₂:=[v]) Θ;simpa using this
    have Y:(ns++[x]).zip us=ns.zip us:=by have:=qo4 (l₁:=ns) (r₁:=[x]) (l₂:=us) (r₂:=([]:η Value)) Θ;simpa using this
    rw[e2,Y]
  rw[e1]at he;have⟨⟨a,b⟩,h8,h9⟩:=qb8.mp h7;cases h9;exact absurd (List.lookup_eq_none_iff.mp he ⟨a,b⟩ h8) Ξ
 have⟨nm,qn,⟨po,as,va,ko,kd,ka,df⟩,bd,sc,gl,cl,dfs,kdf,doc,pm,an,cd,ct,bi⟩:=fd;simp only at h1 h2 h3 h4 hT W hm hz ⊢;subst h1 h2 h3 h4 hT;refine zf8.of_defaults (T:=T) rfl (X T o ho) hs (by unfold zd9;rwa[qg0,qm5,qf6,qy5,qx6];rfl) ?_;have hgt:¬ (us.length > (ns++[x]).length):=by rcases hu with rfl|rfl<;>simp at O ⊢<;>lia
 have Y:(ns++[x]).take ((ns++[x]).length-[v].length)=ns:=by simp
 have e4:(ns++[x]).drop ((ns++[x]).length-[v].length)=[x]:=by simp
 have e5:[v].drop ([v].length-(ns++[x]).length)=[v]:=by simp
 rwa[qz7,hi,W,decide_eq_false hgt,zd0,qg6,if_false,qy5,e5,Y,e4,hm,List.isEmpty_nil,ze5,qn9,List.zip_nil_right,List.forIn_cons,qx6];rcases hu with rfl|rfl
 .obtain⟨a,b,rfl⟩:∃a b,us=a++[b]:=⟨us.dropLast,us.getLast (by intro z;subst z;simp at O),(qo0 _).symm⟩;rw[l8 Z ‹O›];rwa[Option.isNone_some,qg6,if_false,qy5,hz]
 .have hl:us.length=ns.length:=‹O›
  have e6:(ns++[x]).zip us=ns.zip us:=by have:=qo4 (l₁:=ns) (r₁:=[x]) (l₂:=us) (r₂:=([]:η Value)) Θ;simpa using this
  have e7:ns.zip us++[(x,v)]=(ns++[x]).zip (us++[v]):=by rw[qo4 Θ];rfl
  rw[e6,l7 Z];rwa[Option.isNone_none,if_true,qy5,e7,hz]
set_option backward.match.sparseCases true
inductive Kd where
 |fn|fd (d:Int)|me (c:Nat)|mk (c:Nat)
structure Df where
 kd:Kd
 nm:Str
 m:Nat
 n:Nat
 b:S
noncomputable def BO(N ps:η Str)(sc:J9):Bool:=decide (sc.kind=.function)&&!sc.isCoroutine&&!sc.isGenerator&&decide N.Nodup&&decide (N.take ps.length=ps)&&ps.all (λx=>decide (sc.names.lookup x=ς .local)||decide (sc.names.lookup x=ς .cell))&&sc.names.all λy=>decide (y.2≠.free)
theorem xO{ps:η Str}{sc:J9}(h:BO N ps sc=θ):FnScope N ps sc:=by unfold BO at h;rwa[qa1,decide_eq_true_eq,qi4,qc9,qf0]at h;have⟨⟨⟨⟨⟨⟨h1,h2⟩,W⟩,h4⟩,U⟩,O⟩,Y⟩:=h;exact⟨h1,h2,W,h4,U,O,Y⟩
noncomputable def isNoneV:Value->Bool
 |.none=>θ
 |_=>ξ
def nG(K:xA9)(L:Lw)(tb:Tb)(nm q:Str)(d:Df)(fd:qm9):Bool:=match fd.body with
 |.stmts b=>(fd.name==nm)&&(fd.qualname==q)&&(fd.globals==qe6)&&fd.closure.isEmpty&&(fd.builtins==ze7)&&(isNoneV fd.defaults||((nE K fd).isSome&&decide (0<d.n)))&&PySem.W.codeIn K fd.code q&&eS fd.params&&decide (fd.params.args.map (·.arg)=(bm fd.scope).take d.n)&&(decide (d.n<=d.m)&&decide ((bm fd.scope).length=d.m))&&BO (bm fd.scope) ((bm fd.scope).take d.n) fd.scope&&fB L tb ⟨fd.scope,bm fd.scope⟩ d.b b
 |_=>ξ
noncomputable def db(K:xA9)(f:J4):ζ qm9:=match K.lookup f with
 |some o=>(match o.data with
  |.func fd=>ς fd
  |_=>ψ)
 |none=>ψ
structure Ev0(L:Lw)(gc:List (Str×Dt))(G:Gx)(mg:Str->Option Value):Prop where
 ct:G.ct=L.ct
 k2:fV G.K=θ
 bl:∀x∈L.bl,mg x=ψ
 gc:∀p∈gc,za G.K mg p.1 p.2
 cls:∀c,jx G c
 ks:∀s∈L.ks,kl G.K s
section
variable{L:Lw}{tb:Tb}{G:Gx}{P:qe5}{w:J5}{mg:Str->ζ Value}{base:Heap}{d:Df}{fd:qm9}{f:J4}{nm q:Str}
omit x in
theorem gG (E:Ev0 L tb.gc G mg) (ht:∀ e∈tb.f,EnP G P w G.K mg base (lev tb.f.length) e) (hf:db G.K f=ς fd) (h:nG G.K L tb nm q d fd=θ) :
  FnOk P w G.K mg base CX0 (lev tb.f.length+2) f fd ((bm fd.scope).take d.n) (spZ G d.n (cP d.m (evS tb d.b)))/\Binds G.K fd ((bm fd.scope).take d.n) []/\(∀v,nE G.K fd=ς v->Binds G.K fd ((bm fd.scope).take d.n) [v])/\(isNoneV fd.defaults=θ->∀us:η Value,us.length=((bm fd.scope).take d.n).length->zd9 fd ⟨us,[]⟩=pure (((bm fd.scope).take d.n).zip us)):=by
 unfold nG at h;rcases h
 rename_i b hb;rwa[qa1,beq_iff_eq,decide_eq_true_eq,qg2]at h;have⟨⟨⟨⟨⟨⟨⟨⟨⟨⟨⟨h1,h2⟩,h3⟩,h4⟩,h5⟩,O⟩,h7⟩,h8⟩,h9⟩,h10⟩,h11⟩,h12⟩:=h;have W:((bm fd.scope).take d.n).length=d.n:=by rw[qn3];lia
 have hm:=h10.2
 have hdf:∀v,nE G.K fd=ς v->0<d.n->Binds G.K fd ((bm fd.scope).take d.n) []/\Binds G.K fd ((bm fd.scope).take d.n) [v]:=λv hv hpos=>by
  obtain⟨ns,x,Y⟩:∃ns x,(bm fd.scope).take d.n=ns++[x]:=⟨((bm fd.scope).take d.n).dropLast,((bm fd.scope).take d.n).getLast (by intro z;rw[z]at W;simp at W;lia),(qo0 _).symm⟩;refine⟨λs us X Z=>?_,λs us X Z=>?_⟩
  .rw[qf6]at Z ⊢;rw[Y]at Z ⊢;exact l9 h8 hv X (h9.trans Y) Z (.inl rfl)
  .rw[Y]at Z ⊢;exact l9 h8 hv X (h9.trans Y) Z (.inr rfl)
 have hpl:isNoneV fd.defaults=θ->∀us:η Value,us.length=((bm fd.scope).take d.n).length->zd9 fd ⟨us,[]⟩=pure (((bm fd.scope).take d.n).zip us):=λO us Z=>by
  have hd:fd.defaults=.none:=by cases q:fd.defaults<;>rw[q]at O<;>first|rfl|cases O
  rw[<- h9];exact nC h8 hd (by rw[<- h9]at Z;simpa using Z)
 refine⟨?_,?_,λv hv=>?_,hpl⟩
 rotate_left
 .rw[qf0]at O;rcases O with O|O
  .exact .all (hpl O)
  .rwa[qa1,decide_eq_true_eq]at O;have⟨v,hv⟩:=qq8.mp O.1;exact(hdf v hv O.2).1
 .refine(hdf v hv ?_).2;rw[qf0]at O;rcases O with O|O
  .have hd:fd.defaults=.none:=by cases q:fd.defaults<;>rw[q]at O<;>first|rfl|cases O
   simp[nE,hd]at hv
  .rwa[qa1,decide_eq_true_eq]at O;exact O.2
 clear hdf hpl O h8;unfold db at hf;rcases hf
 rename_i o ho;split at hf<;>cases hf
 rename_i hdat
 have⟨nm',qn,ps,bd,sc,gl,cl,dfs,kdf,doc,pm,an,cd,ct,bi⟩:=fd;have⟨oc,od,dta,osl⟩:=o;simp only at h1 h2 h3 h4 h5 h7 h9 h11 h12 hb hdat
 subst h1 h2 h3 h4 h5 hb hdat
 have S:=xO h11;refine Dr (k:=lev tb.f.length+1) ho h7 S (λvs H Q _ hq1=>by have⟨F,ρ,cs,ch,c,ch',g,hn,_,r,_⟩:=hq1;rw[<- Paired.length r,W];exact hn) λA outer s H vs Q E' hr hsp=>?_
 have⟨F,ρ,cs,ch,c,ch',g,hn,ho2,r,U,k⟩:=hsp;have n:Cn L tb G ⟨sc,bm sc⟩ (qa CX0 P w G.K mg base (bm sc) qn sc f cd A outer s H E').nox:=⟨rfl,E.ct,E.k2,rfl,rfl,S.nd,rfl,hr,E.bl,E.gc,E.cls,E.ks,ht,rfl⟩;refine⟨_,(gB (λ_=>rfl) S.kind n d.b b h12).nox,?_⟩;unfold cP at U;simp only at hm;rw[<- hm]at U;rcases U
 .rename_i c1 ch1 hg;cases U;exact⟨_,_,ch,F,ρ,_,l6 g r ho2,hg,λv F' H' ρ' a rr=>k v F' H' ρ' a rr⟩
 .rename_i δ1 ch1 hg;cases U;refine⟨_,_,ch,F,ρ,_,l6 g r ho2,hg,λσ' F' H' ρ' en=>k .non F' H' ρ' en.ad ?_⟩;show Rep G.K F' .non .non;exact oC
end
noncomputable def Df.en(d:Df)(F:Fd):EnBq:=match d.kd with
 |.fn=>.fn d.nm d.n F
 |.fd v=>.fd d.nm d.n v F
 |.me c=>.me c d.nm d.n F
 |.mk c=>.mk c d.n F
def ay(gc:η (Str×Dt)):η Df->Tb
 |[]=>⟨[],gc⟩
 |d::r=>⟨d.en (cP d.m (evS (ay gc r) d.b))::(ay gc r).f,gc⟩
def FF(gc:η (Str×Dt)):η Df->Fd
 |[]=>λ_ _=>ψ
 |d::r=>cP d.m (evS (ay gc r) d.b)
noncomputable def kM(K:xA9)(ct:η (Str×η Str))(c:Nat):ζ (Str×J4):=match ct[c]? with
 |some p=>(match xE9 K qe6 p.1 with
  |some (ς (.ref C))=>ς (p.1,C)
  |_=>ψ)
 |none=>ψ
def xP(K:xA9)(L:Lw)(tb:Tb)(d:Df):Bool:=match d.kd with
 |.fn=>(match xE9 K qe6 d.nm with
  |some (ς (.ref f))=>xD9 K (.ref f)&&(match db K f with|some fd=>nG K L tb d.nm d.nm d fd|none=>ξ)
  |_=>ξ)
 |.fd v=>(match xE9 K qe6 d.nm with
  |some (ς (.ref f))=>xD9 K (.ref f)&&(match db K f with|some fd=>(match nE K fd with|some (.int i _)=>i==v|_=>ξ)&&nG K L tb d.nm d.nm d fd|none=>ξ)
  |_=>ξ)
 |.me c=>(match kM K L.ct c with
  |some (cn,C)=>(match xB9 K (.ref C) d.nm with
   |some (ς (.ref f))=>xH9 K (.ref f)&&xD9 K (.ref f)&&(match db K f with|some fd=>nG K L tb d.nm (cn++(".":Str)++d.nm) d fd|none=>ξ)
   |_=>ξ)
  |none=>ξ)
 |.mk c=>(match kM K L.ct c with
  |some (cn,C)=>xS9 K C&&xD9 K (.ref C)&&(match xB9 K (.ref C) "__init__" with
   |some (ς (.ref f))=>xH9 K (.ref f)&&(match db K f with|some fd=>nG K L tb "__init__" (cn++(".__init__":Str)) d fd|none=>ξ)
   |_=>ξ)
  |none=>ξ)
def noDf(K:xA9)(nm x:Str):Bool:=match xE9 K qe6 nm with
 |some (ς (.ref f))=>(match db K f with|some fd=>isNoneV fd.defaults&&decide (fd.params.args.map (·.arg)=[x])&&decide ((bm fd.scope).take 1=[x])|none=>ξ)
 |_=>ξ
def uC(K:xA9)(L:Lw)(gc:η (Str×Dt)):η Df->Bool
 |[]=>θ
 |d::r=>xP K L (ay gc r) d&&uC K L gc r
variable{j:Nat}{tb:Tb}
section
variable{L:Lw}{gc:η (Str×Dt)}{G:Gx}{P:qe5}{w:J5}{mg:Str->ζ Value}{base h:Heap}
theorem EnP.mono{k:Nat}{e:EnBq}(O:j<=k)(x:EnP G P w G.K mg base j e):EnP G P w G.K mg base k e:=by
 cases e with
 |fn y n F=>have⟨ps,f,fd,h1,h2,U,h4⟩:=x;exact⟨ps,⟨f,fd,h1,h2,U,h4.mono O⟩⟩
 |fd y n d F=>have⟨ps,f,fd,t,h1,h2,U,h4⟩:=x;exact⟨ps,f,fd,t,h1,h2,U,h4.mono O⟩
 |me c m n F=>intro p hp;have⟨ps,C,f,fd,h1,h2,U,h4,W⟩:=x p hp;exact⟨ps,⟨C,f,fd,h1,h2,U,h4,W.mono O⟩⟩
 |mk c n F=>intro p hp;have⟨ps,C,f,fd,h1,h2,U,h4,W⟩:=x p hp;exact⟨ps,⟨C,f,fd,h1,h2,U,h4,W.mono O⟩⟩
omit x in
theorem jL{ct:η (Str×η Str)}{c:Nat}{x:Str×J4}(h:kM K ct c=ς x):∃p,ct[c]?=ς p/\p.1=x.1/\ClsAt K p.1 x.2:=by
 unfold kM at h;rcases h
 rename_i p hp;split at h<;>cases h
 rename_i C O;exact⟨p,hp,rfl,O⟩
theorem iz:∀ds:η Df,(ay gc ds).gc=gc
 |[]=>rfl
 |_::_=>rfl
theorem jM:∀ds:η Df,(ay gc ds).f.length=ds.length
 |[]=>rfl
 |_::r=>by simp[ay,jM r]
omit x in
theorem xQ{d:Df}(X:G.K.In h)(N:h.Ns qe6 mg)(E:Ev0 L tb.gc G mg)(ht:∀e∈tb.f,EnP G P w G.K mg base (lev tb.f.length) e)(hc:xP G.K L tb d=θ):EnP G P w G.K mg base (lev tb.f.length+2) (d.en (cP d.m (evS tb d.b))):=by
 unfold xP at hc;unfold Df.en
 have fin:∀{f:J4}{nm q:Str},(match db G.K f with|some fd=>nG G.K L tb nm q d fd|none=>ξ)=θ->∃fd,FnOk P w G.K mg base CX0 (lev tb.f.length+2) f fd ((bm fd.scope).take d.n) (spZ G d.n (cP d.m (evS tb d.b)))/\Binds G.K fd ((bm fd.scope).take d.n) []:=λ{f nm q} h=>by
  rcases h
  rename_i fd Z;have⟨h1,h2,_⟩:=gG E ht Z h;exact⟨fd,h1,h2⟩
 cases q:d.kd with
 |fn=>
  rw[q]at hc;dsimp only at hc ⊢;rcases hc
  rename_i f hf;rw[qa1]at hc;have⟨fd,h1,h2⟩:=fin hc.2;exact⟨_,⟨f,fd,xK9 X N hf,hc.1,h2,h1⟩⟩
 |fd v=>
  rw[q]at hc;dsimp only at hc ⊢;rcases hc
  rename_i f hf;rw[qa1]at hc;have⟨hc1,hc⟩:=hc;rcases hc
  rename_i fd Z;rw[qa1]at hc;have⟨U,hc⟩:=hc;have⟨h1,_,h3,_⟩:=gG (P:=P) (w:=w) (base:=base) E ht Z hc;rcases U
  rename_i i t hv;rw[beq_iff_eq]at U;subst U;exact⟨_,f,fd,t,xK9 X N hf,hc1,h3 _ hv,h1⟩
 |me c=>
  rw[q]at hc;dsimp only at hc ⊢;rcases hc
  rename_i cn C Y;rcases hc
  rename_i f hf;rwa[qa1]at hc;have⟨fd,h1,h2⟩:=fin hc.2;have⟨p,hp,_,hat⟩:=jL Y;intro p' O;rw[E.ct,hp]at O;cases O;have⟨C',hC',hcs,_⟩:=E.cls c p (by rw[E.ct];exact hp);have:=hat.inj hC';subst this;exact⟨_,⟨C,f,fd,hat,hcs,⟨hf,hc.1.1,hc.1.2⟩,h2,h1⟩⟩
 |mk c=>
  rw[q]at hc;dsimp only at hc ⊢;rcases hc
  rename_i cn C Y;rwa[qa1]at hc;have⟨⟨h3,h4⟩,hc⟩:=hc;rcases hc
  rename_i f hf;rw[qa1]at hc;have⟨fd,h1,h2⟩:=fin hc.2;have⟨p,hp,_,hat⟩:=jL Y;intro p' O;rw[E.ct,hp]at O;cases O;exact⟨_,⟨C,f,fd,hat,xK9 X N hat,⟨h3,hf,hc.1,h4⟩,h2,h1⟩⟩
theorem kN(X:G.K.In h)(N:h.Ns qe6 mg)(E:Ev0 L gc G mg):∀{ds:η Df},uC G.K L gc ds=θ->∀e∈(ay gc ds).f,EnP G P w G.K mg base (lev (ay gc ds).f.length) e
 |[],_,e,O=>by cases O
 |d::r,hc,e,O=>by
  rwa[uC,qa1]at hc;have U:=kN X N E (ds:=r) hc.2;have hl:lev (ay gc (d::r)).f.length=lev (ay gc r).f.length+2:=by simp[ay,lev];lia
  rw[hl];rcases qb9.mp O with rfl|O
  .exact xQ X N (by rw[iz];exact E) U hc.1
  .exact(U e O).mono (qz8 _ _)
noncomputable def zm:Value->Dt->Bool
 |.int i _,.int j=>i==j
 |.str x _,.str y=>x==y
 |_,_=>ξ
def gcOk(K:xA9)(p:Str×Dt):Bool:=match xE9 K qe6 p.1 with
 |some (ς u)=>zm u p.2
 |_=>ξ
noncomputable def clOk(K:xA9)(p:Str×η Str):Bool:=match xE9 K qe6 p.1 with
 |some (ς (.ref C))=>xJ9 K C Str.empty&&xM9 K C&&xQ9 K C&&(xB9 K (.ref C) "__setattr__"==ς (ς (.builtin "object.__setattr__")))&&decide p.2.Nodup&&p.2.all λf=>xB9 K (.ref C) f==ς ψ
 |_=>ξ
noncomputable def tyNames:η String:=["NoneType","bool","int","str","tuple","list","dict"]
noncomputable def jc(c t:String):Bool:=(t==c)||(t=="bool"&&c=="int")
def ksOk(K:xA9)(c:String):Bool:=tyNames.all λt=>xI9 K (.type t) (.type c)==ς (jc c t)
def ev0(K:xA9)(L:Lw)(gc:η (Str×Dt)):Bool:=fV K&&L.bl.all (λx=>xE9 K qe6 x==ς ψ)&&gc.all (gcOk K)&&L.ct.all (clOk K)&&L.ks.all (ksOk K)
omit x in
theorem xU{c:String}(h:ksOk K c=θ):kl K c:=λd _=>by
 have O:∀t∈tyNames,xI9 K (.type t) (.type c)=ς (jc c t):=λt U=>beq_iff_eq.mp (qc9.mp h t U)
 cases d
 case bl b=>
  refine(O "bool" (by simp[tyNames])).trans ?_;rwa[jc,cX,qz2 (a:="bool")];rfl
 case non=>refine(O "NoneType" (by simp[tyNames])).trans ?_;simp[jc,cX,qz2 (a:="NoneType")]
 case int i=>refine(O "int" (by simp[tyNames])).trans ?_;simp[jc,cX,qz2 (a:="int")]
 case str i=>refine(O "str" (by simp[tyNames])).trans ?_;simp[jc,cX,qz2 (a:="str")]
 case t i=>refine(O "tuple" (by simp[tyNames])).trans ?_;simp[jc,cX,qz2 (a:="tuple")]
 case e i=>refine(O "list" (by simp[tyNames])).trans ?_;simp[jc,cX,qz2 (a:="list")]
 case dct a b=>refine(O "dict" (by simp[tyNames])).trans ?_;simp[jc,cX,qz2 (a:="dict")]
 case dcT a b=>refine(O "dict" (by simp[tyNames])).trans ?_;simp[jc,cX,qz2 (a:="dict")]
omit x in
theorem BP(X:K.In h)(N:h.Ns qe6 mg)(hc:ev0 K L gc=θ):Ev0 L gc ⟨K,L.ct⟩ mg:=by
 unfold ev0 at hc;rwa[qa1,qc9]at hc;have⟨⟨⟨⟨h1,h2⟩,h3⟩,h4⟩,h5⟩:=hc;refine⟨rfl,h1,λx Z=>PySem.W.mg_none_of X N (beq_iff_eq.mp (h2 x Z)),λp hp=>?_,λc p hp=>?_,λs hs=>xU (h5 s hs)⟩
 .have h:=h3 p hp;unfold gcOk at h;rcases h
  rename_i u Y;have O:=xK9 X N Y;unfold zm at h;rcases h
  .rename_i i t j e;rw[e];rw[beq_iff_eq]at h;subst h;exact⟨.int i,⟨_,O,_,rfl⟩,λ_=>ba⟩
  .rename_i i t j e;rw[e];rw[beq_iff_eq]at h;subst h;exact⟨.str i,⟨_,O,_,rfl⟩,λ_=>eI⟩
 .have h:=h4 p (qa4 hp);unfold clOk at h;rcases h
  rename_i C U;rwa[qa1,qc9,decide_eq_true_eq]at h;have⟨⟨⟨⟨⟨q1,q2⟩,q3⟩,q4⟩,q5⟩,q6⟩:=h;exact⟨C,U,⟨q1,q2,q3,beq_iff_eq.mp q4⟩,q5,λf hf=>beq_iff_eq.mp (q6 f hf)⟩
end
def spL(K:xA9):Sp:=λvs H Q _=>∃(a:J4)(ns:η Int),vs=[.ref a]/\SqL K H a (ns.map V.int)/\ns.length<=63/\∀H',Q (.bl θ) H'
omit x in
theorem zwalk {l:PySem.W.OpenLaw} {q:qe5} {Y:η Str} {XP:(Str->ζ Value)->Heap->Prop} {YP:J5->Heap->Prop} {d:DefRec} {K:Params->xA9} (L:Lw) (gc:η (Str×Dt)) {d0:Df} {r:η Df} {x:Str} (main:∀ ns:η Int,ns.length<=63->∃ ch',FF gc (d0::r) [.g (.e (ns.map .int))] []=ς (.g (.bl θ),ch'))
  (hd:d0.kd=.fn/\d0.nm=d.name/\d0.n=1) (hr:Room (lev r.length+2) zd3) (hn:l.most=ς 63) (hdf:d.params.defaults=[])
  (hY:∀(w:J5)(h:Heap),YP w h->(K w.params).In h) (hT0:∀w:J5,lq (K w.params)=[])
  (hc:∀w:J5,(ev0 (K w.params) L gc&&uC (K w.params) L gc (d0::r)&&noDf (K w.params) d0.nm x)=θ):PySem.W.WalkO q Y XP YP l.row.toRowW d [] (λf vs=>PySem.call f vs):=by
 refine L2.Fh (n:=63) (k:=lev r.length+2) (x:=x) (CX:=λ_=>CX0) (sp:=λw=>spL (K w.params)) hn Ω hdf hr hY hT0 (λw mg fa h KX N hfa=>?_) (λ_ _ a ns hl hO hS=>⟨a,ns,rfl,hS,hl,λ_=>rfl⟩) λ_ _ _ _ _ z=>z
 have hw:=hc w;rwa[qa1]at hw;have⟨hw,O⟩:=hw;have E:=BP KX N hw.1;have⟨hkd,hnm,hn1⟩:=hd;have U:=hw.2;rwa[uC,qa1]at U;have h1:=U.1;unfold xP at h1;rw[hkd]at h1;dsimp only at h1;rcases h1
 rename_i f hf;rw[qa1]at h1
 have hff:f=fa:=by have e:=xK9 KX N hf;rw[hnm,hfa]at e;cases e;rfl
 subst hff;have h2:=h1.2;rcases h2
 rename_i fd Z;unfold noDf at O;rw[hf]at O;dsimp only at O;rw[Z]at O;rwa[qa1,decide_eq_true_eq]at O;have hps:(bm fd.scope).take d0.n=[x]:=by rw[hn1];exact O.2
 have hb:=(gG (P:=l.prog) (w:=w) (base:=h) (f:=f) (G:=⟨K w.params,L.ct⟩) (tb:=ay gc r) (by rw[iz];exact E) (kN KX N E U.2) Z h2).2.2.2 O.1.1;refine⟨fd,λs u=>.of_eq ?_,λbase hb1 hb2=>?_⟩
 .have:=hb [u] (by rw[hps];rfl);rw[hps]at this;exact this
 .have hok:=(gG (P:=l.prog) (w:=w) (base:=base) (f:=f) (G:=⟨K w.params,L.ct⟩) (tb:=ay gc r) (by rw[iz];exact E) (kN KX N E U.2) Z h2).1;rw[hps,jM]at hok;refine hok.imp λvs H Q E' hsp=>?_
  have⟨a,ns,rfl,hS,hl,q⟩:=hsp;have⟨ch',hm⟩:=main ns hl;refine⟨H,λ_=>a,[.g (.e (ns.map .int))],[],.g (.bl θ),ch',⟨Same.refl H,λi j hi=>absurd hi (Nat.not_lt_zero _),λi o hi=>by simp at hi,λi o hi=>by simp at hi⟩,by rw[hn1];rfl,λt=>Ξ,.cons ?_ .nil,hm,λv F' H' ρ' _ o=>?_⟩
  .show Rep (K w.params) H (.e (ns.map .int)) (.ref a);rwa[Rep];exact⟨a,_,rfl,hS,Reps.map (λ_=>ba) ns⟩
  .have o:Rep (K w.params) F' (.bl θ) v:=o;rwa[Rep]at o;subst o;exact q H'
noncomputable def isKBq:Dt->ζ (η Key)
 |.t [.int n,.str s]=>ς [.inl n,.inr s]
 |_=>ψ
section
variable{X:Cx}
def gSlW:Dt->ζ Int->ζ Int->ζ T
 |.t l,lo,hi=>if HT.sIx l.length 0 lo=0/\HT.sIx l.length l.length hi=l.length then ς (.f (.t l))else ς (.f (.t (ic l lo hi)))
 |x,lo,hi=>gSl x lo hi
def uD(K:xA9):R2:=λx y H Q=>∃a b z xs,x=.ref a/\y=.ref b/\SqT K H a (z::xs)/\SqT K H b []/\Q (.ref a) H
theorem xV:OpR X (qh7 .Add) (uD X.K):=by
 intro J0 s σ H x y v u Q I rx ry h;have⟨a,b,z,xs,rfl,rfl,ha,hb,q⟩:=h;cases rx;cases ry;have⟨J3,r1,p1,_⟩:=I.tuple ha;have⟨its2,r2,p2,_⟩:=I.tuple hb;cases r2;have⟨⟨cls,dd,data,sl⟩,ho,hc,n,hd⟩:=id p1;have⟨⟨cls2,Y,Z,sl2⟩,U,O,n2,W⟩:=id p2;simp only at hc hd O W;subst hc hd O W
 exact qw2 ⟨_,ho,rfl⟩ ⟨_,U,rfl⟩ qt8 qy9 PySem.F.slot_tuple_add PySem.F.entry_tuple_add (PySem.F.args_tuple_add_2 _ _)
  (tuple_addW1 a b J3.toArray #[] n n2 dd Y sl sl2 (by cases r1;simp) rfl) ⟨ho,U,⟨.ref a,H,I,rfl,q⟩⟩
def iA:Dt->Dt->ζ T
 |.t (d::l),.t []=>ς (.f (.t (d::l)))
 |x,y=>ub x y
theorem xW:OpR X (qh7 .Add) (λx y H Q=>(lP X.K x y H Q\/jv X.K x y H Q)\/uD X.K x y H Q):=OpR.or xm xV
omit x in
theorem BQ:R2D K (λx y H Q=>(lP K x y H Q\/jv K x y H Q)\/uD K x y H Q) iA:=by
 intro F H x y vx Z Q t fh Y W U k;unfold iA at U;split at U
 .rename_i d l;cases U;have⟨a,vs,rfl,h1,h2⟩:=Y;have⟨b,ws,rfl,h3,h4⟩:=W;rwa[Reps]at h4;subst h4;have O:=h2;rwa[Reps]at O;have⟨v,us,rfl,_,_⟩:=O;refine .inr ⟨a,b,v,us,rfl,rfl,fh.tup h1,fh.tup h3,k.leaf.here fh ?_⟩;rwa[Rep];exact⟨a,_,rfl,h1,h2⟩
 .exact .inl (Bz F H _ _ vx Z Q t fh Y W U k)
end
def uE:Dt->Dt->ζ T
 |.str x,.int n=>if 0<=n/\n<=1000/\x.length<=1000 then ς (.f (.str (Bw x n)))else ψ
 |_,_=>ψ
def zn:R2:=λx y H Q=>∃z n,x=.str z/\y=.int n/\(0<=n/\n<=1000/\z.length<=1000)/\Q (.str (Bw z n)) H
theorem BR{z:Str}{n:Int}(h:0<=n/\n<=1000/\z.length<=1000):MulOk z n:=by
 have⟨U,h1,h2⟩:=h;refine⟨?_,λh _=>?_,λh _=>?_⟩
 .have O:decide (n < -(2^63:Int))=ξ:=decide_eq_false Θ;have e2:decide (n ≥ 2^63)=ξ:=decide_eq_false Θ;rw[O,e2];rfl
 .have e:(1000:Int)<=(2^63-1)/n:=(Int.le_ediv_iff_mul_le Θ).mpr Θ;lia
 .have e:z.length*n.toNat<=1000*1000:=Nat.mul_le_mul h2 Θ;have hs:qa5=16777216:=qb7;exact decide_eq_false Θ
variable{X:Cx}
theorem xY:OpR X (qh7 .Mult) zn:=by intro J0 s σ H x y v u Q I U O h;have⟨z,n,rfl,rfl,hb,q⟩:=h;have⟨t,rfl⟩:=U;have⟨t',rfl⟩:=O;exact SB.mul (BR hb) λt2 k=>⟨.str (Bw z n),H,I.tok _,⟨_,rfl⟩,q⟩
omit x in
theorem BS:R2D K zn uE:=by
 intro F H x y vx Y Q t fh U W O k;unfold uE at O;rcases O
 split at O<;>cases O
 rename_i h;cases U;cases W;exact⟨_,_,rfl,rfl,h,k.str fh⟩
noncomputable def ma:Dt->Dt->ζ T
 |.e l,.int n=>if 0<=n/\n<=1000/\l.length<=1000 then ς (.e (qb0 n.toNat l).flatten)else ψ
 |_,_=>ψ
theorem DR (a:Int) (t:Tok) (l:J4) (J3:Array Value) (n:Nat) (sl:Array (ζ Value)) :
  Meets (qj2.«int.__rmul__» ⟨[.int a t,.ref l],[]⟩) (λ_ R s=>s.heap.get? l=ς {cls:=.type "list",dict:=ψ,data:=.seq J3 n,slots:=sl}/\R (.ok (.ret Value.notImplemented)) s):=
 .of_wp λprog w A R s h=>by have⟨hp,g,d,U,O⟩:=s;have⟨hl,h⟩:=h;wp_walk;exact⟨_,rfl,h⟩
theorem mulL (l:J4) (J3:Array Value) (n:Nat) (sl:Array (ζ Value)) (x:Int) (u:Tok) (W:¬(!Builtin.List.listFitsIndex x)=θ) (h1:¬J3.size*x.toNat > (2^63-1)/8) (h2:¬qr0 (J3.size*x.toNat)=θ) (hsz:(zc8 (λO U=>O++U) #[] (qb0 (if J3.isEmpty=θ then 0 else x.toNat) J3)).size<=qa5) :
  Meets (qj2.«list.__mul__» ⟨[.ref l,.int x u],[]⟩) (λ_ R s=>s.heap.get? l=ς {cls:=.type "list",dict:=ψ,data:=.seq J3 n,slots:=sl}/\R (.ok (.ret (qc3 s.heap.objs.size))) {s with heap:=s.heap.push {cls:=qo5 "list",data:=Data.seq (zc8 (λO U=>O++U) #[] (qb0 (if J3.isEmpty=θ then 0 else x.toNat) J3))},toks:=s.toks}):=
 .of_wp λprog w A R s h=>by have⟨hp,g,d,Z,Y⟩:=s;have⟨hl,h⟩:=h;wp_walk;refine wpAny_ite_false (decide_eq_false (qn6.mpr hsz)) ?_;wp_walk;exact⟨_,rfl,h⟩
def zo(K:xA9):R2:=λx y H Q=>∃l k xs,x=.ref l/\y=.int k/\SqL K H l xs/\(0<=k/\k<=1000/\xs.length<=1000)∧∀p,H p=ψ->Q (.ref p) (upd H p (.e (qb0 k.toNat xs).flatten))
theorem xZ:OpR X (qh7 .Mult) (zo X.K):=by
 intro J0 s σ H x y v u Q I rx ry h;have⟨l,k,xs,rfl,rfl,hH,⟨h0,h1,hx⟩,q⟩:=h;cases rx;have⟨t,rfl⟩:=ry;have⟨J3,r,pl,_⟩:=I.list hH;have⟨⟨cls,dd,data,sl⟩,n,Z,hc,Y,hd⟩:=pl;simp only at hc hd Y;subst hc hd Y;have hl:=r.length;have hk:k.toNat<=1000:=by lia
 have hm:J3.length*k.toNat<=1000*1000:=Nat.mul_le_mul Θ hk;have hs:qa5=16777216:=qb7;have W:J3.toArray.size*k.toNat<=qa5:=by rw[qb5];lia
 have O:zc8 (λx1 x2=>x1++x2) #[] (qb0 (if J3.toArray.isEmpty=θ then 0 else k.toNat) J3.toArray)=(qb0 k.toNat J3).flatten.toArray:=by
  have f0:∀m:Nat,zc8 (λx1 x2=>x1++x2) #[] (qb0 m J3.toArray)=(qb0 m J3).flatten.toArray:=λm=>by have:=jl J3 m [];rw[qm5]at this;exact this
  rw[f0];cases J3 with
  |nil=>simp
  |cons a r'=>rw[if_neg Ξ]
 refine wpAny_binaryOp_repeat_ref (T:="list") (U:="int") Ω ⟨_,Z,rfl⟩ (λs'=>typeIs_int s' k t) noFill_list_mul F.fills_int_mul F.slot_int_rmul repeat_list F.slot_int_index.lookup
  (qu8 F.slot_int_rmul (typeIs_int s k t) F.entry_int_rmul (F.args_int_rmul_2 _ _) (DR k t l J3.toArray n sl)
   ⟨Z,rfl,⟨_,Z,rfl⟩,qu8 F.slot_list_mul ⟨_,Z,rfl⟩ F.entry_list_mul (F.args_list_mul_2 _ _) (mulL l J3.toArray n sl k t (by
    rw[fitsIndex_both Θ Θ];exact qb6) (by
    have:(qa5:Nat)<=(2^63-1)/8:=by decide
    lia) (by
    rw[su W];exact qb6) (by
    rw[O,qb5,oy,Nat.mul_comm];lia)) ⟨Z,?_⟩⟩)
 rw[O];exact⟨.ref _,_,I.lnew (t':=s.toks) (r.rep k.toNat) (by rw[oy,Nat.mul_comm,hl];lia),rfl,q _ I.fresh⟩
variable{l:η Dt}
theorem Reps.rep{F:Hp}(h:Reps K F l vs):∀n:Nat,Reps K F (qb0 n l).flatten (qb0 n vs).flatten
 |0=>by simp[Reps]
 |n+1=>by rw[qf8,qf8,qk5,qk5];exact h.append (Reps.rep h n)
omit x in
theorem BT:R2D K (zo K) ma:=by
 intro F H x y vx Y Q t fh W U O k;unfold ma at O;rcases O
 split at O<;>cases O
 rename_i hl;have⟨a,vs,rfl,h1,h2⟩:=W;cases U;exact⟨a,_,vs,rfl,rfl,h1,⟨hl.1,hl.2.1,by rw[h2.length];exact hl.2.2⟩,λp hp=>bT k fh (Reps.rep h2 _) hp⟩
noncomputable def orO(g g':Dt->Dt->ζ T)(x y:Dt):ζ T:=match g x y with
 |some t=>ς t
 |none=>g' x y
omit x in
theorem R2D.or{r U:R2}{g g':Dt->Dt->ζ T}(h:R2D K r g)(h':R2D K U g'):R2D K (λx y H Q=>r x y H Q\/U x y H Q) (orO g g'):=λF H x y vx W Q t fh Z Y O k=>by
 unfold orO at O;split at O
 .rename_i u hu;cases O;exact .inl (h F H x y vx W Q _ fh Z Y hu k)
 .exact .inr (h' F H x y vx W Q t fh Z Y O k)
noncomputable def x9:Dt->Dt->ζ T
 |.int i,.int j=>if 0<=j then ς (.f (.int (i/2^j.toNat)))else ψ
 |_,_=>ψ
theorem DS:R2D K (gW (λ_ j=>0<=j) λi j=>.int (i/2^j.toNat)) x9:=by
 intro F H x y vx Y Q t fh W U O k;unfold x9 at O;rcases O
 split at O
 .cases O;cases W;cases U;exact⟨_,_,rfl,rfl,by assumption,k.int fh⟩
 .cases O
def qY(O:Bool)(x y:Dt):ζ T:=(bW y x).map λr=>.f (.bl (if O then !r.isSome else r.isSome))
theorem zp{O:Bool}(hK:fV K=θ):R2D K (Bm O) (qY O):=by
 intro F H x y vx vy Q t fh Z Y U k;have⟨r,hr,rfl⟩:=mS U;have⟨a,o,rfl,U,W⟩:=ie hK fh Y Z hr;refine⟨a,o,rfl,U,?_⟩
 have e:o.isSome=r.isSome:=by
  cases r with
  |none=>rw[W.2 rfl];rfl
  |some d=>have⟨v,rfl,_⟩:=W.1 d rfl;rfl
 rw[e];exact k.bl fh
def oAdd:Op2:=⟨.inl .Add,orO eM iA,λK X k e _ _=>⟨_,by subst e;exact OpR.or oG xW,R2D.or yZ BQ⟩⟩
def oSub:Op2:=⟨.inl .Sub,tm,λK X k e _ _=>⟨_,Aj,Dz⟩⟩
def oMul:Op2:=⟨.inl .Mult,orO iY (orO ma uE),λK X k e _ _=>⟨_,by subst e;exact OpR.or Ak (OpR.or xZ xY),R2D.or DA (R2D.or BT BS)⟩⟩
noncomputable def oDiv:Op2:=⟨.inl .FloorDiv,gi,λK X k e _ _=>⟨_,uc,BA⟩⟩
noncomputable def oMod:Op2:=⟨.inl .Mod,eN,λK X k e _ _=>⟨_,Al,DB⟩⟩
def oPow:Op2:=⟨.inl .Pow,tp,λK X k e _ _=>⟨_,Am,DC⟩⟩
noncomputable def oBan:Op2:=⟨.inl .BitAnd,qr qw7,λK X k e _ _=>⟨_,Ap,m5⟩⟩
noncomputable def oBor:Op2:=⟨.inl .BitOr,qr qj2.bitOr,λK X k e _ _=>⟨_,Dk,m5⟩⟩
noncomputable def oXor:Op2:=⟨.inl .BitXor,qr qj2.bitXor,λK X k e _ _=>⟨_,Aq,m5⟩⟩
noncomputable def oShr:Op2:=⟨.inl .RShift,x9,λK X k e _ _=>⟨_,Ao,DS⟩⟩
def oEq:Op2:=⟨.inr .Eq,gEq ξ,λK X k e r _=>⟨_,by subst e;exact AU r,r_eq⟩⟩
def oNe:Op2:=⟨.inr .NotEq,gEq θ,λK X k e r _=>⟨_,by subst e;exact AV r,r_ne⟩⟩
noncomputable def oLt:Op2:=⟨.inr .Lt,wV λi j=>decide (i<j),λK X k e r _=>⟨_,Dn,y8⟩⟩
noncomputable def oGt:Op2:=⟨.inr .Gt,wV λi j=>decide (j<i),λK X k e r _=>⟨_,Do,y8⟩⟩
def oIs:Op2:=⟨.inr .Is,orO (gIs ξ) (qx ξ),λK X k e r _=>⟨_,OpR.or Au By,R2D.or r_is DK⟩⟩
def oIsN:Op2:=⟨.inr .IsNot,orO (gIs θ) (qx θ),λK X k e r _=>⟨_,OpR.or wo qy,R2D.or wX ua⟩⟩
def oIn:Op2:=⟨.inr .In,orO (gIn ξ) (qY ξ),λK X k e r h=>⟨_,by subst e;exact OpR.or AY (Bn (lA r)),R2D.or (r_in ξ) (zp h)⟩⟩
def oNi:Op2:=⟨.inr .NotIn,orO (gIn θ) (qY θ),λK X k e r h=>⟨_,by subst e;exact OpR.or qt (qu (lA r)),R2D.or (r_in θ) (zp h)⟩⟩
def bLen:Bf:=⟨"len",.inl "len",rfl,fL,λK X k e _ _=>⟨_,by subst e;exact rW,DD⟩⟩
noncomputable def bList:Bf:=⟨"list",.inr "list",rfl,tB,λK X k e _ _=>⟨_,by subst e;exact j6,A0⟩⟩
def bTup:Bf:=⟨"tuple",.inr "tuple",rfl,m9,λK X k e _ _=>⟨_,by subst e;exact iV,wY⟩⟩
def bSrt:Bf:=⟨"sorted",.inl "sorted",rfl,gD,λK X k e _ _=>⟨_,by subst e;exact kx,um⟩⟩
def mJoin:Ms:=⟨"join","str.join",PySem.F.slot_str_join,PySem.F.type_str_join,km,λK X e=>⟨_,by subst e;exact wN,wZ⟩⟩
noncomputable def uF:Ia:=⟨.Add,λi j=>i+j,λX=>Ac⟩
noncomputable abbrev kI(n:Int):E:=.k (.int n)
noncomputable abbrev kS(s:Str):E:=.k (.str s)
noncomputable abbrev A1(a:E):E:=.cons a .nil
abbrev A2(a b:E):E:=.cons a (A1 b)
abbrev A3(a b c:E):E:=.cons a (A2 b c)
abbrev A4(a b c d:E):E:=.cons a (A3 b c d)
abbrev A5(a b c d e:E):E:=.cons a (A4 b c d e)
noncomputable abbrev vN0:E:=.v 0
noncomputable abbrev vN1:E:=.v 1
noncomputable abbrev vN2:E:=.v 2
noncomputable abbrev vN3:E:=.v 3
noncomputable abbrev vN4:E:=.v 4
noncomputable abbrev vN5:E:=.v 5
noncomputable abbrev vN6:E:=.v 6
noncomputable abbrev vN7:E:=.v 7
noncomputable abbrev vN8:E:=.v 8
noncomputable abbrev vN9:E:=.v 9
noncomputable abbrev vN10:E:=.v 10
noncomputable abbrev uG:E:=.v 11
noncomputable abbrev nH:E:=.v 12
noncomputable abbrev BU:E:=.v 13
noncomputable abbrev qZ:E:=.v 14
noncomputable def sL:η S->S
 |[]=>.nil
 |a::l=>.sq a (sL l)
instance{n:Nat}[OfNat Int n]:OfNat E n:=⟨.k (.int (OfNat.ofNat n))⟩
instance:Add E:=⟨.b2 oAdd .v⟩
instance:Sub E:=⟨.b2 oSub .v⟩
instance:Mul E:=⟨.b2 oMul .v⟩
instance:_root_.Mod E:=⟨.b2 oMod .v⟩
instance:SDiff E:=⟨.b2 oDiv .v⟩
instance:Div E:=⟨.ix⟩
theorem xLit{n:Nat}[OfNat Int n]:(OfNat.ofNat n:E)=.k (.int (OfNat.ofNat n)):=rfl
section
variable{a b:E}
theorem xAdd:a+b=.b2 oAdd .v a b:=rfl
theorem xSub:a-b=.b2 oSub .v a b:=rfl
theorem xMul:a*b=.b2 oMul .v a b:=rfl
theorem xMod:a%b=.b2 oMod .v a b:=rfl
theorem xDiv:a \ b=.b2 oDiv .v a b:=rfl
theorem xIx:a/b=.ix a b:=rfl
abbrev tsE(a b:E):E:=.tr (.b2 oEq .v a b)
noncomputable abbrev tsL(a b:E):E:=.tr (.b2 oLt .v a b)
abbrev tsN(a b:E):E:=.tr (.b2 oNe .v a b)
noncomputable abbrev tsG(a b:E):E:=.tr (.b2 oGt .v a b)
abbrev eLn(a:E):E:=.bn bLen .v (A1 a)
abbrev rG1(a:E):E:=.rg (A1 a)
noncomputable abbrev aT0(c f:Nat):E:=.at c f (.v 0)
noncomputable abbrev mE0(j:Nat)(a:E):E:=.me j (.v 0) a
noncomputable abbrev cO0(l:η (ζ Nat))(a b:E):E:=.co .v l (.one 0) a .ys b
noncomputable abbrev cR0(a b:E):S:=.cd a (.sq (.rt b) .nil) .nil
end
noncomputable def sLb:η S->S->S
 |[],s=>s
 |a::l,s=>.sq a (sLb l s)
noncomputable def gc:η (Str×Dt):=[("WIDE",.int 1099511627776)]
noncomputable def L:Lw:=⟨["dict","enumerate","isinstance","len","list","range","sorted","str","tuple"],[("Hand",["first","unlike"]),("Lost",["place","done","hears","says","boxes","dust","log"]),("Store",["home","heads","page_boxes","page_turns","counting","result"]),("House",["rows","onward","sizes","twins","keeps","incoming","store","hand","dust","lost","plan"]),("Plain",["rows","onward","incoming","outgoing","boxes","cells","shelves","place","hears","done","result"])],["str"]⟩
noncomputable def t0:η Df:=[]
def d0:Df:=⟨.fn,"_law_names",6,2,sL [.set 2 (kS "abcdefghijklmnopqrstuvwxyz"),.set 3 (vN0%6),.set 4 (vN0 \ 6%(vN3+1)),.set 5 (.ms mJoin .v (kS "") (A1 (cO0 [ψ,ς 0,ς 2] (rG1 vN3) (vN2/((vN1 \ 37+11*vN0*(vN1%2))%26))))),.rt (cO0 [ψ,ς 4,ς 0,ς 5,ς 2] (rG1 vN1) (.sl .v vN3 .no (.cons vN1 .nil)+vN4/((vN2 \ 42+5*vN0)%26)+.sl .v vN3 (.cons vN1 .nil) .no))]⟩
def t1:=d0::t0
def d1:Df:=⟨.fn,"_law_cell_at",2,2,sL [cR0 (tsL vN1 (eLn vN0)) (vN0/vN1),.rt 0]⟩
def t2:=d1::t1
def d2:Df:=⟨.fn,"_law_stream",5,2,sL [.set 2 (.ls .w .nil),.set 3 (vN0%2147483629+69621),.fo (.one 4) (rG1 (vN1+1)) (sL [.set 3 ((vN3*vN3+16807*vN3+vN4)%2147483629),.aps 2 vN3]),.rt (.sl .v vN2 (.cons 1 .nil) .no)]⟩
def t3:=d2::t2
def d3:Df:=⟨.fn,"_law_value_by",1,1,sL [cR0 (tsE (vN0%3) 0) (vN0 \ 3%4),cR0 (tsE (vN0%3) 1) (.b2 oPow .v 2 40-1-vN0 \ 3%4),.rt (vN0 \ 3*1664525%.b2 oPow .v 2 40)]⟩
def t4:=d3::t3
def d4:Df:=⟨.fn,"_law_world",6,1,sL [.set 1 (.ca 3 (A2 (.ca 2 (A2 vN0 0)) 12)),.set 2 (.ca 1 (A2 (.ca 2 (A2 vN0 1)) 12)),.set 3 (cO0 [ψ,ς 1,ς 2] (rG1 (1+vN2/6%3)) (.tu (A3 (vN1/vN0) (.ca 0 (A1 (vN2/vN0))) (.b2 oEq .v ((vN2/vN0) \ 5%2) 0)))),.set 4 (cO0 [ψ,ς 1,ς 2] (rG1 (1+vN2/7%2)) (.tu (A3 (vN1/(4+vN0)) (1+vN2/(4+vN0)%8) (.b2 oEq .v ((vN2/(4+vN0)) \ 8%2) 0)))),.set 5 (cO0 [ψ] (.it (.ca 1 (A2 (.ca 2 (A2 vN0 2)) (vN2/8%7)))) (.ca 0 (A1 vN0))),.rt (.tu (A4 (.sl .v vN1 (.cons 6 .nil) (.cons 10 .nil)) vN3 vN4 vN5))]⟩
def t5:=d4::t4
def d5:Df:=⟨.fn,"_law_atom",2,2,sL [cR0 (tsE (vN0%3) 0) (.ca 1 (A1 (vN0 \ 3))),.rt (vN1/(vN0 \ 3%eLn vN1))]⟩
def t6:=d5::t5
def d6:Df:=⟨.fn,"_law_led",3,3,sL [cR0 (tsE (vN0/4%6) 0) (vN0/5%vN2),.rt (vN1+1+vN0/5%(vN2-1-vN1))]⟩
def t7:=d6::t6
def d7:Df:=⟨.fn,"_law_row",15,4,sL [.un (.many [4,5,6,7]) vN3,.set 8 (.ca 4 (A2 vN0 8)),.set 9 (vN4/(vN8/1%eLn vN4)),.set 10 (vN5/(vN8/6%eLn vN5)/0),.set 11 (vN6/(vN8/6%eLn vN6)/0),.set 12 (.ca 1 (A2 (vN8/2) vN4)),.set 13 (.ca 1 (A2 (vN8/3) vN4)),.set 14 (vN8/0%23),cR0 (tsL qZ 5) (.tu (A5 (kS "op") vN9 (kS "+-*<=&|^"/(vN8/7%8)) nH BU)),cR0 (tsL qZ 17) (.ls .v (A4 (.tu (A3 (kS "load") vN9 vN10)) (.tu (A3 (kS "store") vN10 nH)) (.tu (A4 (kS "take") vN9 uG nH)) (.tu (A4 (kS "lay") uG nH BU)))/(qZ%4)),cR0 (tsL qZ 20) (.ls .v (A3 (.tu (A3 (kS "copy") vN9 nH)) (.tu (A2 (kS "hear") vN9)) (.tu (A2 (kS "say") nH)))/(qZ%3)),cR0 (tsL qZ 22) (.tu (A3 (kS "if") vN9 (.ca 0 (A3 vN8 vN1 vN2)))),.rt (.ls .v (A3 (.tu (A2 (kS "end") nH)) (.tu (A2 (kS "say") BU)) (.tu (A2 (kS "go") (.ca 0 (A3 vN8 vN1 vN2)))))/((vN8/5) \ 64%3))]⟩
def t8:=d7::t7
def d8:Df:=⟨.fn,"_law_program",4,3,sL [.set 3 (cO0 [ψ,ς 0,ς 1] (rG1 (eLn vN0)) (.ca 0 (A4 (vN1/vN0) vN0 (eLn vN1+1) vN2))),.rt (.tu (A3 (.bn bTup .v (A1 (vN1/1))) (.bn bTup .v (A1 (vN1/2))) (.bn bTup .v (A1 vN3)+.tu (A1 (.tu (A2 (kS "end") vN2))))))]⟩
def t9:=d8::t8
def d9:Df:=⟨.fn,"_law_some",2,2,sL [.rt (.bn bTup .v (A1 (.bn bSrt .v (A1 (.co .v [ψ,ς 1,ς 0] (.one 0) (rG1 (eLn vN1)) (tsE (.b2 oBan .v (.b2 oShr .v vN2 vN0) 1) 1) (vN1/vN0))))))]⟩
def t10:=d9::t9
def d10:Df:=⟨.fn,"_law_cutting",9,4,sL [.set 4 (vN0/2),.set 5 (.ca 7 (A2 vN1 (eLn vN4+2))),.set 6 (.ls .v (A3 2 3 5)/(vN5/0%3)),.set 7 (.ls .w .nil),.fo (.one 8) (rG1 (eLn vN4)) (sL [.cd (.to (.ta (tsE (vN4/vN8/0) (kS "end")) (.tr vN3)) (tsE (vN5/(vN8+1)%vN6) 0)) (sL [.aps 7 (.tu (A2 vN8 (.ca 0 (A2 ((vN5/(vN8+1)) \ 30) vN2))))]) .nil]),.rt (.tu (A2 (.ca 0 (A2 (vN5/.ng 1) vN2)) (.bn bTup .v (A1 vN7))))]⟩
def t11:=d10::t10
def d11:Df:=⟨.fn,"ways_of",2,2,sL [cR0 (tsE (vN1/0) (kS "go")) (.tu (A1 (vN1/1))),cR0 (tsE (vN1/0) (kS "if")) (.tu (A2 (vN1/2) (vN0+1))),cR0 (tsE (vN1/0) (kS "end")) (.tu .nil),.rt (.tu (A1 (vN0+1)))]⟩
def t12:=d11::t11
def d12:Df:=⟨.fn,"ways",1,1,sL [.rt (.co .v [ψ,ψ] (.many [0,1]) (.en (vN0/2)) .ys (.ca 0 (A2 vN0 vN1)))]⟩
def t13:=d12::t12
def d13:Df:=⟨.mk 2,"__init__",3,3,sL [.fl 2 0 vN0 (.dc .o (cO0 [ψ] (.it (vN1/0)) (.tu (.cons (vN0/0) (.cons (.ls .o (.cons (vN0/1) .nil)) .nil))))),.up (aT0 2 0) (.dc .o (cO0 [ψ] (.it (vN1/1)) (.tu (.cons (vN0/0) (.cons (.b2 oMul .o (.ls .v (A1 0)) (vN0/1)) .nil))))),.fl 2 1 vN0 (.ls .o (A2 (.tu (A4 0 0 0 0)) (.tu (A4 0 0 0 0)))),.fl 2 2 vN0 (.ls .o (.cons (.co .o [ψ] (.one 0) (.it vN2) .ys (.tu (.cons vN0 (.cons 0 .nil)))) (.cons (.ls .o .nil) .nil))),.fl 2 3 vN0 (.ls .o (.cons (.ls .o .nil) (.cons (.ls .o .nil) .nil))),.fl 2 4 vN0 0,.fl 2 5 vN0 (.k .non)]⟩
def t14:=d13::t13
def d14:Df:=⟨.mk 0,"__init__",1,1,sL [.fl 0 0 vN0 (.dn .o ξ),.fl 0 1 vN0 (.k (.bl ξ))]⟩
def t15:=d14::t14
def d15:Df:=⟨.fn,"named",2,2,sL [.rt (.co .v [ψ,ψ,ς 0] (.many [0,1]) (.it vN1) .ys (.tu (A4 vN2 (vN0/0) (vN0/1) vN1)))]⟩
def t16:=d15::t15
def d16:Df:=⟨.fn,"coming_up",1,1,sL [.rt (.b2 oAdd .o (.ca 0 (A2 (kS "put") (vN0/5))) (.ls .v (A1 (.tu (A1 (kS "wake"))))))]⟩
def t17:=d16::t16
def d17:Df:=⟨.me 2,"page",2,2,sL [.rt (aT0 2 1/vN1+.tu (A2 (.bn bList .v (A1 (aT0 2 2/vN1))) (.bn bList .v (A1 (aT0 2 3/vN1)))))]⟩
def t18:=d17::t17
def d18:Df:=⟨.me 3,"page",2,2,sL [.rt (.me 0 (aT0 3 6) (A1 vN1))]⟩
def t19:=d18::t18
def d19:Df:=⟨.me 2,"face",1,1,sL [.rt (aT0 2 4)]⟩
def t20:=d19::t19
def d20:Df:=⟨.me 3,"face",1,1,sL [.rt (.me 0 (aT0 3 6) .nil)]⟩
def t21:=d20::t20
def d21:Df:=⟨.mk 3,"__init__",4,4,sL [.fl 3 0 vN0 (vN1/2),.fl 3 1 vN0 (.ca 8 (A1 vN1)),.fl 3 2 vN0 (.dc .v (cO0 [ψ] (.it (vN1/1)) (.tu (A2 (vN0/0) (vN0/1))))),.fl 3 3 vN0 (.co .v [ψ] (.one 0) (.it (vN1/0+vN1/1)) (.tr (vN0/2)) (vN0/0)),.fl 3 4 vN0 (.dc .v (vN2/1)),.fl 3 5 vN0 (.bn bList .v (A1 vN3)),.fl 3 6 vN0 (.mk 7 (A2 vN1 (vN2/0))),.fl 3 7 vN0 (.mk 6 .nil),.fl 3 8 vN0 0,.fl 3 9 vN0 (.k .non),.fl 3 10 vN0 (.ca 4 (A1 (mE0 2 (A1 (mE0 0 .nil)))))]⟩
def t22:=d21::t21
def d22:Df:=⟨.mk 4,"__init__",3,3,sL [.fl 4 0 vN0 (vN1/2),.fl 4 1 vN0 (.ca 9 (A1 vN1)),.fl 4 2 vN0 (.bn bList .v (A1 vN2)),.fl 4 3 vN0 (.ls .o .nil),.fl 4 4 vN0 (.dn .o ξ),.fl 4 5 vN0 (.dc .o (cO0 [ψ] (.it (vN1/0)) (.tu (A2 (vN0/0) (vN0/1))))),.fl 4 6 vN0 (.dc .o (cO0 [ψ] (.it (vN1/1)) (.tu (.cons (vN0/0) (.cons (.b2 oMul .o (.ls .v (A1 0)) (vN0/1)) .nil))))),.fl 4 7 vN0 0,.fl 4 8 vN0 0,.fl 4 9 vN0 0,.fl 4 10 vN0 (.k .non)]⟩
def t23:=d22::t22
def d23:Df:=⟨.me 2,"answer",1,1,sL [.rt (aT0 2 5)]⟩
def t24:=d23::t23
def d24:Df:=⟨.me 3,"answer",1,1,sL [.rt (.me 0 (aT0 3 6) .nil)]⟩
def t25:=d24::t24
def d25:Df:=⟨.me 3,"rests",1,1,sL [.rt (.b2 oIsN .v (mE0 0 .nil) (.k .non))]⟩
def t26:=d25::t25
def d26:Df:=⟨.me 3,"stands",1,1,sL [.rt (.cd (.to (.tr (mE0 0 .nil)) (tsG (eLn (aT0 3 10)) 0)) (.k .non) (.at 1 0 (aT0 3 9)))]⟩
def t27:=d26::t26
def d27:Df:=⟨.mk 1,"__init__",3,3,sL [.fl 1 0 vN0 (vN1/0),.fl 1 1 vN0 (vN1/1),.fl 1 2 vN0 (vN1/2),.fl 1 3 vN0 (vN1/3),.fl 1 4 vN0 (.dc .o (vN1/4)),.fl 1 5 vN0 vN2,.fl 1 6 vN0 (.dn .o θ)]⟩
def t28:=d27::t27
def d28:Df:=⟨.me 2,"put",4,4,sL [.put (aT0 2 0/vN1) vN2 vN3]⟩
def t29:=d28::t28
def d29:Df:=⟨.me 2,"other",1,1,sL [.rt (1-aT0 2 4)]⟩
def t30:=d29::t29
def d30:Df:=⟨.me 2,"begin_page",5,5,sL [.put (aT0 2 1) (mE0 0 .nil) (.tu (A4 vN1 vN2 vN3 vN4)),.put (aT0 2 2) (mE0 0 .nil) (.ls .o .nil),.put (aT0 2 3) (mE0 0 .nil) (.ls .o .nil)]⟩
def t31:=d30::t30
def d31:Df:=⟨.me 2,"keep_box",3,3,sL [.ap (aT0 2 2/mE0 1 .nil) (.tu (A2 vN1 vN2))]⟩
def t32:=d31::t31
def d32:Df:=⟨.me 2,"keep_turn",4,4,sL [.ap (aT0 2 3/mE0 2 .nil) (.tu (A2 (.tu (A2 vN1 vN2)) vN3))]⟩
def t33:=d32::t32
def d33:Df:=⟨.me 2,"turn",1,1,sL [.fl 2 4 vN0 (mE0 3 .nil)]⟩
def t34:=d33::t33
def d34:Df:=⟨.fn,"do_small",2,2,sL [.cd (tsE (vN1/0) (kS "put")) (sL [.dr (mE0 5 (A3 (vN1/1) (vN1/2) (vN1/3)))]) (sL [.cd (tsE (vN1/0) (kS "begin")) (sL [.dr (mE0 3 (A4 (vN1/1) (vN1/2) (vN1/3) (vN1/4)))]) (sL [.cd (tsE (vN1/0) (kS "box")) (sL [.dr (mE0 2 (A2 (vN1/1) (vN1/2)))]) (sL [.cd (tsE (vN1/0) (kS "log")) (sL [.dr (mE0 1 (A3 (vN1/1) (vN1/2) (vN1/3)))]) (sL [.cd (tsE (vN1/0) (kS "turn")) (sL [.dr (mE0 0 .nil)]) .nil])])])])]⟩
def t35:=d34::t34
def d35:Df:=⟨.me 3,"small_step",2,1,sL [.set 1 (.pp (aT0 3 10) 0),.cd (tsE (vN1/0) (kS "wake")) (sL [.fl 3 9 vN0 (.mk 7 (A2 (mE0 16 (A1 (mE0 14 .nil))) (aT0 3 8)))]) (sL [.dr (.ca 0 (A2 (aT0 3 6) vN1))]),.cd (tsE (eLn (aT0 3 10)) 0) (sL [.cl θ (.at 1 6 (aT0 3 9))]) .nil]⟩
def t36:=d35::t35
def d36:Df:=⟨.me 2,"give",2,2,sL [.fl 2 5 vN0 vN1]⟩
def t37:=d36::t36
def d37:Df:=⟨.me 1,"worth",2,2,sL [.rt (.cd (.tr (.ii "str" vN1)) (.gt (aT0 1 4) vN1 (aT0 1 5)) vN1)]⟩
def t38:=d37::t37
def d38:Df:=⟨.me 3,"write_at",4,4,sL [.cd (.tr (.b2 oIn .v vN1 (aT0 3 3))) (sL [.put (.at 1 6 (aT0 3 9)) (.tu (A2 vN1 vN2)) vN3]) (sL [.dr (.me 9 (aT0 3 6) (A3 vN1 vN2 vN3))])]⟩
def t39:=d38::t38
def d39:Df:=⟨.me 3,"place_on",3,3,sL [.rt (.me 1 (aT0 3 9) (A1 vN2)%(aT0 3 2/vN1))]⟩
def t40:=d39::t39
def d40:Df:=⟨.me 0,"take",3,3,sL [.cd (.tr (.b2 oNi .v vN1 (aT0 0 0))) (sL [.put (aT0 0 0) vN1 vN2]) (sL [.cd (tsN (aT0 0 0/vN1) vN2) (sL [.fl 0 1 vN0 (.k (.bl θ))]) .nil])]⟩
def t41:=d40::t40
def d41:Df:=⟨.fn,"number_of",3,3,sL [cR0 (tsE vN0 (kS "+")) (vN1+vN2),cR0 (tsE vN0 (kS "-")) (vN1-vN2),cR0 (tsE vN0 (kS "*")) (vN1*vN2),cR0 (tsE vN0 (kS "<")) (.cd (tsL vN1 vN2) 1 0),cR0 (tsE vN0 (kS "=")) (.cd (tsE vN1 vN2) 1 0),cR0 (tsE vN0 (kS "&")) (.b2 oBan .v vN1 vN2),cR0 (tsE vN0 (kS "|")) (.b2 oBor .v vN1 vN2),.rt (.b2 oXor .v vN1 vN2)]⟩
def t42:=d41::t41
def d42:Df:=⟨.fn,"value",3,3,sL [.rt (.ca 0 (A3 vN0 vN1 vN2)%.g 0)]⟩
def t43:=d42::t42
def d43:Df:=⟨.me 2,"get_home",3,3,sL [.rt (aT0 2 0/vN1/vN2)]⟩
def t44:=d43::t43
def d44:Df:=⟨.me 3,"value_at",3,3,sL [cR0 (.tr (.b2 oIn .v (.tu (A2 vN1 vN2)) (.at 1 6 (aT0 3 9)))) (.at 1 6 (aT0 3 9)/.tu (A2 vN1 vN2)),.rt (.me 0 (aT0 3 6) (A2 vN1 vN2))]⟩
def t45:=d44::t44
def d45:Df:=⟨.me 3,"next_letter",3,1,sL [.set 1 (aT0 3 9),.set 2 (.at 1 2 vN1),.fa 1 2 uF vN1 1,.rt (.cd (tsL vN2 (eLn (aT0 3 5))) (aT0 3 5/vN2) 0)]⟩
def t46:=d45::t45
def d46:Df:=⟨.me 3,"set_by",3,2,sL [.set 2 (aT0 3 9),cR0 (tsE (vN1/0) (kS "copy")) (.me 8 vN2 (A1 (vN1/2))),cR0 (tsE (vN1/0) (kS "op")) (.ca 3 (A3 (vN1/2) (.me 8 vN2 (A1 (vN1/3))) (.me 8 vN2 (A1 (vN1/4))))),cR0 (tsE (vN1/0) (kS "load")) (mE0 1 (A2 (vN1/2) 0)),cR0 (tsE (vN1/0) (kS "take")) (mE0 1 (A2 (vN1/2) (mE0 6 (A2 (vN1/2) (vN1/3))))),.rt (mE0 0 .nil)]⟩
def t47:=d46::t46
def d47:Df:=⟨.me 3,"do_row",3,2,sL [.set 2 (aT0 3 9),.cd (tsE (vN1/0) (kS "store")) (sL [.dr (mE0 8 (A3 (vN1/1) 0 (.me 9 vN2 (A1 (vN1/2)))))]) (sL [.cd (tsE (vN1/0) (kS "lay")) (sL [.dr (mE0 8 (A3 (vN1/1) (mE0 7 (A2 (vN1/1) (vN1/2))) (.me 9 vN2 (A1 (vN1/3)))))]) (sL [.cd (tsE (vN1/0) (kS "say")) (sL [.dr (.me 6 (aT0 3 7) (A2 (.at 1 3 vN2) (.me 9 vN2 (A1 (vN1/1))))),.fa 1 3 uF vN2 1]) (sL [.cd (.ta (tsN (vN1/0) (kS "if")) (tsN (vN1/0) (kS "go"))) (sL [.put (.at 1 4 vN2) (vN1/1) (mE0 0 (A1 vN1))]) .nil])])])]⟩
def t48:=d47::t47
def d48:Df:=⟨.me 3,"place_behind",4,2,sL [.set 2 (aT0 3 9),.set 3 (aT0 3 1/.at 1 0 vN2),cR0 (.ta (tsE (vN1/0) (kS "if")) (tsE (.me 10 vN2 (A1 (vN1/1))) 0)) (vN3/1),.rt (vN3/0)]⟩
def t49:=d48::t48
def d49:Df:=⟨.fn,"writing_down",5,2,sL [.set 2 (.ls .v (A1 (.tu (A5 (kS "begin") (aT0 1 0) (aT0 1 1) (aT0 1 2) (aT0 1 3))))),.set 3 (cO0 [ψ,ς 0] (.it vN1) (.tu (A3 (kS "box") vN0 (.me 11 vN1 (A1 vN0))))),.set 4 (.il .v (aT0 1 6)),.rt (.b2 oAdd .o (vN2+vN3+.ca 33 (A2 (kS "log") vN4)+.ls .v (A1 (.tu (A1 (kS "turn"))))) (.ca 33 (A2 (kS "put") vN4)))]⟩
def t50:=d49::t49
def d50:Df:=⟨.me 3,"row_step",3,1,sL [.set 1 (aT0 3 9),.set 2 (aT0 3 0/.at 1 0 vN1),.fa 1 1 uF vN1 1,.cd (tsE (vN2/0) (kS "end")) (sL [.dr (.me 13 (aT0 3 6) (A1 (.me 12 vN1 (A1 (vN2/1))))),.rn]) .nil,.dr (mE0 2 (A1 vN2)),.fl 1 0 vN1 (mE0 1 (A1 vN2)),.cd (.tr (.b2 oIn .v (.at 1 0 vN1) (aT0 3 4))) (sL [.fl 3 10 vN0 (.ca 0 (A2 vN1 (aT0 3 4/.at 1 0 vN1)))]) .nil]⟩
def t51:=d50::t50
def d51:Df:=⟨.me 3,"step",1,1,sL [.cd (.tr (mE0 25 .nil)) (sL [.rn]) .nil,.cd (tsG (eLn (aT0 3 10)) 0) (sL [.dr (mE0 15 .nil)]) (sL [.dr (mE0 0 .nil)])]⟩
def t52:=d51::t51
def d52:Df:=⟨.me 0,"kept",2,1,sL [.set 1 (.ls .o .nil),.wh 1100 (.tr (.b2 oIn .v (eLn vN1) (aT0 0 0))) (sL [.ap vN1 (aT0 0 0/eLn vN1)]),.rt vN1]⟩
def t53:=d52::t52
def d53:Df:=⟨.me 3,"letters",1,1,sL [.rt (.me 0 (aT0 3 7) .nil)]⟩
def t54:=d53::t53
def d54:Df:=⟨.me 4,"stands",1,1,sL [.rt (aT0 4 7)]⟩
def t55:=d54::t54
def d55:Df:=⟨.me 3,"count",1,1,sL [.rt (.cd (.tr (.b2 oIs .v (mE0 28 .nil) (.k .non))) (mE0 36 (A1 (mE0 34 .nil))/1) (.at 1 1 (aT0 3 9)))]⟩
def t56:=d55::t55
def d56:Df:=⟨.me 4,"count",1,1,sL [.rt (aT0 4 9)]⟩
def t57:=d56::t56
def d57:Df:=⟨.me 4,"sent",1,1,sL [.rt (.bn bList .v (A1 (aT0 4 3)))]⟩
def t58:=d57::t57
def d58:Df:=⟨.me 3,"box",2,2,sL [.rt (.cd (.tr (.b2 oIs .v (mE0 31 .nil) (.k .non))) 0 (.me 20 (aT0 3 9) (A1 vN1)))]⟩
def t59:=d58::t58
def d59:Df:=⟨.me 4,"box",2,2,sL [.rt (.gt (aT0 4 4) vN1 0)]⟩
def t60:=d59::t59
def d60:Df:=⟨.me 2,"cell",2,2,sL [.rt (aT0 2 0/vN1/0)]⟩
def t61:=d60::t60
def d61:Df:=⟨.me 3,"cell",2,2,sL [.rt (.me 0 (aT0 3 6) (A1 vN1))]⟩
def t62:=d61::t61
def d62:Df:=⟨.me 4,"cell",2,2,sL [.rt (aT0 4 5/vN1)]⟩
def t63:=d62::t62
def d63:Df:=⟨.me 2,"shelf",2,2,sL [.rt (.bn bList .o (A1 (aT0 2 0/vN1)))]⟩
def t64:=d63::t63
def d64:Df:=⟨.me 3,"shelf",2,2,sL [.rt (.me 0 (aT0 3 6) (A1 vN1))]⟩
def t65:=d64::t64
def d65:Df:=⟨.me 4,"shelf",2,2,sL [.rt (.bn bList .v (A1 (aT0 4 6/vN1)))]⟩
def t66:=d65::t65
def d66:Df:=⟨.me 0,"torn",1,1,sL [.rt (aT0 0 1)]⟩
def t67:=d66::t66
def d67:Df:=⟨.me 3,"torn",1,1,sL [.rt (.me 0 (aT0 3 7) .nil)]⟩
def t68:=d67::t67
def d68:Df:=⟨.fn,"_law_alike",10,4,sL [.set 4 (mE0 14 .nil),cR0 (.to (tsN (mE0 41 .nil) (.me 13 vN1 .nil)) (.to (tsN (mE0 12 .nil) (.me 11 vN1 .nil)) (tsN vN4 (.me 10 vN1 .nil)))) (.k (.bl ξ)),.ap vN4 8,.fo (.one 5) (.it vN3) (sL [cR0 (tsN (mE0 9 (A1 vN5)) (.me 8 vN1 (A1 vN5))) (.k (.bl ξ))]),.fo (.many [5,6,7]) (.it (vN2/0)) (sL [cR0 (.ta (.tn (.tr vN7)) (tsN (mE0 6 (A1 vN5)) (.me 5 vN1 (A1 vN5)))) (.k (.bl ξ))]),.fo (.many [5,8,7]) (.it (vN2/1)) (sL [.set 9 (mE0 3 (A1 vN5)),cR0 (.ta (.tn (.tr vN7)) (tsN vN9 (.me 2 vN1 (A1 vN5)))) (.k (.bl ξ)),.ap vN9 8]),.rt (.an (.b2 oIs .v (mE0 43 .nil) (.k .non)) (.an (.b2 oIs .v (mE0 42 .nil) (.k (.bl ξ))) (.b2 oIs .v (mE0 0 .nil) (.k (.bl ξ)))))]⟩
def t69:=d68::t68
def d69:Df:=⟨.me 2,"shelf",2,2,sL [.rt (.bn bList .v (A1 (aT0 2 0/vN1)))]⟩
def t70:=d69::t69
def d70:Df:=⟨.me 3,"shelf",2,2,sL [.rt (.me 0 (aT0 3 6) (A1 vN1))]⟩
def t71:=d70::t70
def d71:Df:=⟨.fn,"_law_twins",3,2,sL [.set 2 (.co .v [ψ,ψ,ψ,ς 0] (.many [0,1,2]) (.it (vN1/0)) (.tr vN2) (.me 9 vN3 (A1 vN0))),.rt (vN2+.co .v [ψ,ψ,ψ,ς 0] (.many [0,1,2]) (.it (vN1/1)) (.tr vN2) (.me 0 vN3 (A1 vN0)))]⟩
def t72:=d71::t71
def d72:Df:=⟨.me 4,"ended",1,1,sL [.rt (.b2 oIsN .v (aT0 4 10) (.k .non))]⟩
def t73:=d72::t72
def d73:Df:=⟨.me 4,"worth",2,2,sL [.rt (.cd (.tr (.ii "str" vN1)) (mE0 13 (A1 vN1)) vN1)]⟩
def t74:=d73::t73
def d74:Df:=⟨.me 4,"next_letter",2,1,sL [.set 1 (aT0 4 8),.fa 4 8 uF vN0 1,.rt (.cd (tsL vN1 (eLn (aT0 4 2))) (aT0 4 2/vN1) 0)]⟩
def t75:=d74::t74
def d75:Df:=⟨.me 4,"set_by",3,2,sL [cR0 (tsE (vN1/0) (kS "copy")) (mE0 1 (A1 (vN1/2))),cR0 (tsE (vN1/0) (kS "op")) (.ca 32 (A3 (vN1/2) (mE0 1 (A1 (vN1/3))) (mE0 1 (A1 (vN1/4))))),cR0 (tsE (vN1/0) (kS "load")) (aT0 4 5/(vN1/2)),.cd (tsE (vN1/0) (kS "take")) (sL [.set 2 (aT0 4 6/(vN1/2)),.rt (vN2/(mE0 1 (A1 (vN1/3))%eLn vN2))]) .nil,.rt (mE0 0 .nil)]⟩
def t76:=d75::t75
def d76:Df:=⟨.me 4,"do_row",3,2,sL [.cd (tsE (vN1/0) (kS "store")) (sL [.put (aT0 4 5) (vN1/1) (mE0 2 (A1 (vN1/2)))]) (sL [.cd (tsE (vN1/0) (kS "lay")) (sL [.set 2 (aT0 4 6/(vN1/1)),.put vN2 (mE0 2 (A1 (vN1/2))%eLn vN2) (mE0 2 (A1 (vN1/3)))]) (sL [.cd (tsE (vN1/0) (kS "say")) (sL [.ap (aT0 4 3) (mE0 2 (A1 (vN1/1)))]) (sL [.cd (.ta (tsN (vN1/0) (kS "if")) (tsN (vN1/0) (kS "go"))) (sL [.put (aT0 4 4) (vN1/1) (mE0 0 (A1 vN1))]) .nil])])])]⟩
def t77:=d76::t76
def d77:Df:=⟨.me 4,"place_behind",3,2,sL [.set 2 (aT0 4 1/aT0 4 7),cR0 (.ta (tsE (vN1/0) (kS "if")) (tsE (mE0 3 (A1 (vN1/1))) 0)) (vN2/1),.rt (vN2/0)]⟩
def t78:=d77::t77
def d78:Df:=⟨.me 4,"step",2,1,sL [.cd (.tr (mE0 5 .nil)) (sL [.rn]) .nil,.set 1 (aT0 4 0/aT0 4 7),.fa 4 9 uF vN0 1,.cd (tsE (vN1/0) (kS "end")) (sL [.fl 4 10 vN0 (mE0 4 (A1 (vN1/1)))]) (sL [.dr (mE0 1 (A1 vN1)),.fl 4 7 vN0 (mE0 0 (A1 vN1))])]⟩
def t79:=d78::t78
def d79:Df:=⟨.me 4,"answer",1,1,sL [.rt (aT0 4 10)]⟩
def t80:=d79::t79
def d80:Df:=⟨.me 0,"kept",2,1,sLb [.set 1 (.ls .w .nil),.wh 1100 (.tr (.b2 oIn .v (eLn vN1) (aT0 0 0))) (sL [.aps 1 (aT0 0 0/eLn vN1)])] (.fz 1 (sL [.rt vN1]))⟩
def t81:=d80::t80
def d81:Df:=⟨.me 3,"letters",1,1,sL [.rt (.me 0 (aT0 3 7) .nil)]⟩
def t82:=d81::t81
def d82:Df:=⟨.fn,"_law_home",3,2,sL [.set 2 (.co .v [ψ,ψ,ψ,ς 0] (.many [0,1,2]) (.it (vN1/0)) .ys (.me 20 vN3 (A1 vN0))),.rt (vN2+.co .v [ψ,ψ,ψ,ς 0] (.many [0,1,2]) (.it (vN1/1)) .ys (.me 11 vN3 (A1 vN0)))]⟩
def t83:=d82::t82
def d83:Df:=⟨.fn,"_law_home",3,2,sL [.set 2 (.co .v [ψ,ψ,ψ,ς 0] (.many [0,1,2]) (.it (vN1/0)) .ys (.me 20 vN3 (A1 vN0))),.rt (vN2+.co .v [ψ,ψ,ψ,ς 0] (.many [0,1,2]) (.it (vN1/1)) .ys (.me 17 vN3 (A1 vN0)))]⟩
def t84:=d83::t83
def d84:Df:=⟨.fn,"_law_at_rest",5,5,sL [cR0 (.to (.tr (.b2 oIsN .v (mE0 57 .nil) (.k .non))) (.to (.tr (.b2 oIsN .v (mE0 58 .nil) (.k (.bl θ)))) (.tr (.b2 oIsN .v (mE0 16 .nil) (.k (.bl ξ)))))) (.k (.bl ξ)),cR0 (.to (tsN (mE0 59 .nil) (.me 4 vN1 .nil)) (tsN (mE0 2 .nil) (.me 26 vN1 .nil))) (.k (.bl ξ)),cR0 (.to (tsN (.ca 12 (A2 vN0 vN2)) vN4) (tsN (mE0 65 (A1 (mE0 63 .nil))/1) (mE0 28 .nil))) (.k (.bl ξ)),cR0 (.tr (.b2 oNi .v (.me 29 vN1 .nil) vN3)) (.k (.bl θ)),.rt (.an (.b2 oEq .v (mE0 28 .nil) (.me 27 vN1 .nil-1)) (.b2 oEq .v (.ca 1 (A2 vN0 vN2)) (.ca 0 (A2 vN1 vN2))))]⟩
def t85:=d84::t84
def d85:Df:=⟨.me 3,"fail",2,2,sL [.cd (.tr (mE0 59 .nil)) (sL [.rn]) .nil,.fl 3 9 vN0 (.k .non),.fl 3 8 vN0 vN1,.fl 3 10 vN0 (.ca 68 (A1 (mE0 66 (A1 (mE0 64 .nil)))))]⟩
def t86:=d85::t85
def d86:Df:=⟨.fn,"law",12,1,sL [.set 1 (.ca 81 (A1 vN0)),.set 2 (.ca 85 (A2 (.ca 84 (A2 vN0 0)) 12)),.set 3 (.ca 77 (A3 (.sl .v vN0 (.cons 5 .nil) (.cons 35 .nil)) vN1 (.ca 80 (A2 (.ca 84 (A2 vN0 3)%2147483629) (vN1/0))))),.set 4 (.bn bList .w (A1 (vN1/3))),.set 5 (.ca 75 (A4 vN3 (.ca 84 (A2 vN0 4)) (.sl .v vN2 (.cons 5 .nil) (.cons 11 .nil)) (.b2 oGt .v (.ca 84 (A2 vN0 4) \ 7%4) 0))),.set 6 (.dc .v (vN5/1)),.set 7 (.mk 64 (A3 vN3 vN5 vN4)),.cls 4,.set 8 (.mk 63 (A2 vN3 (vN1/3))),cR0 (.to (.tr (.b2 oIsN .v (.me 59 vN7 .nil) (.k .non))) (.tr (.b2 oIsN .v (.me 60 vN7 .nil) (.k (.bl ξ))))) (.k (.bl ξ)),.dr (.me 34 vN7 .nil),cR0 (tsN (.me 59 vN7 .nil) 0) (.k (.bl ξ)),.set 9 (.ls .v .nil),.fo (.one 10) (rG1 100) (sL [.set 11 (.b2 oIsN .v (.me 59 vN7 .nil) (.k .non)),cR0 (.ta (.tr uG) (.tn (.tr (.ca 17 (A4 vN7 vN8 vN3 vN2))))) (.k (.bl ξ)),.cd (.tr uG) (sL [.set 9 (.ca 14 (A2 vN7 vN3))]) .nil,.dr (.me 34 vN7 .nil),.cd (.tr uG) (sL [.dr (.me 7 vN8 .nil)]) .nil,.cd (.tr (.me 13 vN8 .nil)) (sL [.bk]) .nil]),cR0 (.tn (.tr (.me 13 vN8 .nil))) (.b2 oIs .v (.me 60 vN7 .nil) (.k (.bl ξ))),cR0 (.tn (.tr (.ca 1 (A5 vN7 vN8 vN3 vN6 vN9)))) (.k (.bl ξ)),.dr (.me 34 vN7 .nil),.dr (.me 0 vN7 (A1 (.ca 84 (A2 vN0 4)%.b2 oPow .v 2 40))),.dr (.me 34 vN7 .nil),.rt (.ca 1 (A5 vN7 vN8 vN3 vN6 vN9))]⟩
def t87:=d86::t86
noncomputable def rn(ρ:Nat->Nat):CV->CV
 |.ref i=>.ref (ρ i)
 |.g d=>.g d
 |.fn a F=>.fn a F
 |.own b t=>.own b t
abbrev rnP{κ:Type}(ρ:Nat->Nat)(l:η (κ×CV)):η (κ×CV):=l.map λp=>(p.1,rn ρ p.2)
def rnO(ρ:Nat->Nat):CO->CO
 |.e l=>.e (l.map (rn ρ))
 |.t l=>.t (l.map (rn ρ))
 |.dK l=>.dK (rnP ρ l)
 |.dT l=>.dT (rnP ρ l)
 |.ins c l=>.ins c (l.map (rn ρ))
abbrev rnS(ρ:Nat->Nat)(δ:Sl):Sl:=δ.map (zc9 (rn ρ))
structure Em(ρ:Nat->Nat)(a b:CH):Prop where
 inj:∀i j,ρ i=ρ j->i=j
 get:∀{i o},a[i]?=ς o->b[ρ i]?=ς (rnO ρ o)
 nw:∀k,ρ (a.length+k)=b.length+k
def Kp(ρ:Nat->Nat)(b b':CH):Prop:=∀j,(∀i,ρ i≠j)->b'[j]?=b[j]?
def GoBq{β:Type}(ρ:Nat->Nat)(b:CH)(y:ζ (β×CH))(x:β)(a':CH):Prop:=∃b',y=ς (x,b')/\Em ρ a' b'/\Kp ρ b b'
def Tr{α:Type}(R:(Nat->Nat)->α->α)(f:FM α):Prop:=∀{ρ δ a x a' b},Em ρ a b->f δ a=ς (x,a')->GoBq ρ b (f (rnS ρ δ) b) (R ρ x) a'
noncomputable abbrev rI{α:Type}(_:Nat->Nat)(x:α):α:=x
abbrev rnA(ρ:Nat->Nat)(l:η CV):η CV:=l.map (rn ρ)
def TrD(F:Fd):Prop:=∀{ρ cs a x a' b},Em ρ a b->F cs a=ς (x,a')->GoBq ρ b (F (rnA ρ cs) b) (rn ρ x) a'
variable{b' a':CH}{δ:Sl}
section
variable{ρ:Nat->Nat}{a b:CH}{c:CV}{m:Md}{α β:Type}
theorem Kp.refl:Kp ρ b b:=λ_ _=>rfl
theorem Kp.trans{b'':CH}(h:Kp ρ b b')(k:Kp ρ b' b''):Kp ρ b b'':=λj O=>(k j O).trans (h j O)
theorem GoBq.bind{y:ζ (α×CH)}{x:α}{a'':CH}{k:α×CH->ζ (β×CH)}{z:β}(h:GoBq ρ b y x a')(U:∀b',Em ρ a' b'->GoBq ρ b' (k (x,b')) z a''):GoBq ρ b (y.bind k) z a'':=by have⟨b1,rfl,E,f⟩:=h;have⟨b2,h2,O,W⟩:=U b1 E;exact⟨b2,h2,O,f.trans W⟩
theorem GoBq.here{x:α}(E:Em ρ a b):GoBq ρ b (ς (x,b)) x a:=⟨b,rfl,E,.refl⟩
theorem GoBq.map{y:ζ (α×CH)}{x:α}{k:α×CH->β×CH}{z:β}(h:GoBq ρ b y x a')(O:∀b',k (x,b')=(z,b')):GoBq ρ b (y.map k) z a':=by have⟨b1,rfl,E,f⟩:=h;exact⟨b1,by rw[qb2,O],E,f⟩
theorem bM{i:Nat}:rn ρ (.ref i)=.ref (ρ i):=rfl
theorem iB{d:Dt}:rn ρ (.g d)=.g d:=rfl
theorem dW:(rn ρ c).sol=c.sol:=by cases c<;>rfl
omit x in
theorem DT:(rn ρ c).kp=c.kp:=by cases c<;>first|rfl|(rename_i b t;cases b<;>rfl)
omit x in
theorem BV:(rn ρ c).old=c.old:=by cases c<;>first|rfl|(rename_i b t;cases b<;>rfl)
theorem oW:rn ρ (lent c)=lent (rn ρ c):=by cases c<;>rfl
theorem uH:dO (rn ρ c)=dO c:=by cases c<;>rfl
theorem iC:cu (rn ρ c)=cu c:=by cases c<;>rfl
theorem cC:∀l:η CV,dats (l.map (rn ρ))=dats l
 |[]=>rfl
 |c::l=>by have:=cC l;cases c<;>simp[dats,rn,this]
theorem oX:∀l:η CV,gj (l.map (rn ρ))=gj l
 |[]=>rfl
 |c::l=>by
  have:=oX l;cases c with
  |g d=>cases d<;>simp[gj,rn,this]
  |_=>simp[gj,rn]
theorem kQ(l:η CV):(l.map (rn ρ)).all CV.sol=l.all CV.sol:=by rw[zf4];exact List.all_congr rfl λc=>dW
theorem kR(l:η CV):(l.map (rn ρ)).all CV.old=l.all CV.old:=by rw[zf4];exact List.all_congr rfl λc=>BV
theorem BW(o:CO):vwO (rnO ρ o)=vwO o:=by
 cases o with
 |e l=>rwa[rnO,vwO,cC]
 |t l=>rfl
 |ins c l=>rfl
 |dK l|dT l=>have h:=cC (ρ:=ρ) (l.map (·.2));rw[qd2]at h;rwa[rnO,vwO,rnP,qd2,qb1];rwa[qb1]at h;rw[h]
theorem Em.vw(E:Em ρ a b){d:Dt}(h:vw a c=ς d):vw b (rn ρ c)=ς d:=by
 cases c with
 |ref i=>have⟨o,h1,h2⟩:=bS h;show(b[ρ i]?).bind vwO=ς d;rw[E.get h1,qa0,BW];exact h2
 |g d=>exact h
 |fn x F=>exact h
 |own x t=>exact h
theorem Em.vws(E:Em ρ a b):∀{l:η CV}{ds:η Dt},vws a l=ς ds->vws b (l.map (rn ρ))=ς ds
 |[],ds,h=>h
 |c::l,ds,h=>by have⟨d,h1,h2⟩:=bS h;have⟨es,O,rfl⟩:=mS h2;show(L2.vw b (rn ρ c)).bind _=_;rw[E.vw h1,qa0,E.vws O];rfl
theorem Em.push(E:Em ρ a b)(o:CO):Em ρ (a++[o]) (b++[rnO ρ o])/\Kp ρ b (b++[rnO ρ o])/\ρ a.length=b.length:=by
 have U:ρ a.length=b.length:=E.nw 0;refine⟨⟨E.inj,λ{i w} h=>?_,λk=>?_⟩,λj Y=>?_,U⟩
 .rcases qj9 i a.length with hi|hi
  .rw[gL hi]at h;have:=E.get h;rw[gL (aj this)];exact this
  .have O:i=a.length:=by have:=aj h;simp at this;lia
   subst O;simp at h;subst h;rw[U];simp
 .have:=E.nw (k+1);rwa[qc4,qi7];rw[show a.length+1+k=a.length+(k+1)by lia,this];lia
 .have W:j≠b.length:=λe=>Y _ (U.trans e.symm)
  rcases qj9 j b.length with hi|hi
  .rw[gL hi]
  .rw[qd6 (by simp;lia),qd6 hi]
theorem Em.set(E:Em ρ a b){i:Nat}{w:CO}(U:a[i]?=ς w)(o:CO):Em ρ (a.set i o) (b.set (ρ i) (rnO ρ o))/\Kp ρ b (b.set (ρ i) (rnO ρ o)):=by
 refine⟨⟨E.inj,λ{j u} h=>?_,λk=>‹E.nw k›⟩,λj O=>by rw[qu3 (O i)]⟩;by_cases O:i=j
 .subst O;rw[qe3 (aj U)]at h;cases h;rw[qe3 (aj (E.get U))]
 .rw[gN O]at h;rw[gN (λe=>O (E.inj _ _ e))];exact E.get h
omit x in
theorem Em.al(E:Em ρ a b){t:T}{x:CV}(h:al a t=ς (x,a')):GoBq ρ b (al b t) (rn ρ x) a':=by
 have O:∀o:CO,rnO ρ o=o->(CV.ref a.length,a++[o])=(x,a')->GoBq ρ b (ς (.ref b.length,b++[o])) (rn ρ x) a':=λo Z e=>by cases e;have⟨h1,h2,Y⟩:=E.push o;rw[Z]at h1 h2;exact⟨_,by rw[<- Y];rfl,h1,h2⟩
 have W:∀l:η Dt,rnO ρ (.e (l.map .g))=.e (l.map .g):=λl=>by simp[rnO,rn,qb1]
 unfold L2.al at h ⊢;split at h
 .cases h;exact .here E
 .exact O _ (W _) (qd5 h)
 .split at h
  .rename_i U;rwa[U,if_true];exact O _ (by simp[rnO,rn,rnP,qb1]) (qd5 h)
  .cases h
 .split at h
  .rename_i U;rwa[U,if_true];exact O _ (by simp[rnO,rn,rnP,qb1]) (qd5 h)
  .cases h
 .cases h
omit x in
theorem Em.fin(E:Em ρ a b){t:T}{x:CV}(h:fin m a t=ς (x,a')):GoBq ρ b (fin m b t) (rn ρ x) a':=by
 cases m with
 |v=>have⟨d,h1,h2⟩:=mS h;cases h2;exact⟨b,by show t.d.map _=_;rw[h1];rfl,E,.refl⟩
 |o=>exact E.al h
 |w=>
  unfold L2.fin at h ⊢;dsimp only at h ⊢;split at h<;>cases h
  rename_i O;rw[if_pos O];exact .here E
omit x in
theorem Em.finL(E:Em ρ a b){l:η CV}{x:CV}(h:finL m l a=ς (x,a')):GoBq ρ b (finL m (rnA ρ l) b) (rn ρ x) a':=by
 unfold L2.finL at h ⊢;rw[cC,kQ];split at h
 .exact E.fin h
 .split at h<;>cases h
  rename_i hl;have⟨h1,h2,O⟩:=E.push (.e l);rw[if_pos hl];exact⟨_,by rw[<- O];rfl,h1,h2⟩
theorem nI{i:Nat}{c:CV}(h:δ[i]?=ς (ς c)):(rnS ρ δ)[i]?=ς (ς (rn ρ c)):=by simp[h]
theorem oY{κ:Type}[DecidableEq κ]{k:κ}:∀l:η (κ×CV),lkC (rnP ρ l) k=(lkC l k).map (rn ρ)
 |[]=>rfl
 |p::l=>by
  have O:=oY (k:=k) l;by_cases h:p.1=k
  .simp[lkC,rnP,qt1,h]
  .rwa[lkC,rnP,qa3,qt1,h,decide_false]at O ⊢;exact O
theorem BX{α β:Type}{f:α->β}{l:η α}{i:Int}:atI (l.map f) i=(atI l i).map f:=by unfold atI;rwa[qa2,qa9,Option.map_bind];rfl
theorem BY{o:CO}{d:Dt}:ixO (rnO ρ o) d=(ixO o d).map (rn ρ):=by
 cases o with
 |e l|t l=>rwa[ixO,rnO];cases asI d<;>simp[BX]
 |dK l=>rwa[ixO,rnO];cases cN d<;>simp[oY]
 |dT l=>rwa[ixO,rnO];cases isK d<;>simp[oY]
 |ins c l=>rfl
theorem Em.ixV(E:Em ρ a b){d:Dt}{x:CV}(h:ixV a c d=ς x):ixV b (rn ρ c) d=ς (rn ρ x):=by
 cases c with
 |ref i=>have⟨o,h1,h2⟩:=bS h;show(b[ρ i]?).bind _=_;rw[E.get h1,qa0,BY,h2];rfl
 |g d'=>unfold L2.ixV at h ⊢;have⟨z,h1,h2⟩:=bS h;have⟨y,O,rfl⟩:=mS h2;exact h
 |fn z F=>cases h
 |own z t=>unfold L2.ixV at h ⊢;have⟨z,h1,h2⟩:=bS h;have⟨y,O,rfl⟩:=mS h2;exact h
end
variable{ρ:Nat->Nat}{a:CH}{z:CV}{δ':Sl}{src:η (ζ Nat)}{fi:FM (η Dt)}
section
variable{f fa fb fk fe:Fg}{ft fu:FM Bool}{fs:FM (η CV)}{m:Md}{F:Fd}
theorem tr_K{d:Dt}:Tr rn (eK d):=λE h=>by cases h;exact .here E
omit x in
theorem tr_V{i:Nat}:Tr rn (eV i):=λ{ρ δ a x a' b} E h=>by
 unfold eV at h ⊢;split at h<;>cases h
 rename_i c hc;rw[nI hc];dsimp only;rw[oW];exact .here E
theorem tr_2{g:Dt->Dt->ζ T}(U:Tr rn fa)(hb:Tr rn fb):Tr rn (e2 m g fa fb):=λE h=>by
 have⟨p,h1,h⟩:=bS h;have⟨q,h2,h⟩:=bS h;have⟨x,Y,h⟩:=bS h;have⟨y,h4,h⟩:=bS h;have⟨t,W,h⟩:=bS h;refine(U E h1).bind λb1 Z=>(hb Z h2).bind λb2 O=>?_
 dsimp only;rw[O.vw Y,qa0,O.vw h4,qa0,W];exact O.fin h
theorem uI(O:Tr rn f):Tr rI (iZ f):=λE h=>by
 have⟨p,h1,h⟩:=bS h;have⟨x,W,h⟩:=mS h;cases h;refine(O E h1).bind λb1 U=>?_
 dsimp only;rw[uH,W];exact .here U
theorem BZ(U:Tr rn f):Tr rI (gm f):=λE h=>by
 have⟨p,h1,h⟩:=bS h;have⟨d,h2,h⟩:=bS h;have⟨x,W,h⟩:=mS h;cases h;refine(U E h1).bind λb1 O=>?_
 dsimp only;rw[O.vw h2,qa0,W];exact .here O
theorem DU(O:Tr rI ft):Tr rI (tNt ft):=λE h=>by have⟨p,h1,h⟩:=mS h;cases h;exact(O E h1).map λ_=>rfl
omit x in
theorem DV(U:Tr rI ft)(hb:Tr rI fu):Tr rI (tAn ft fu):=λE h=>by
 have⟨p,h1,h⟩:=bS h;refine(U E h1).bind λb1 O=>?_
 dsimp only;split at h
 .rename_i hp;rw[if_pos hp];exact hb O h
 .rename_i hp;rw[if_neg hp];cases h;exact .here O
omit x in
theorem DW(U:Tr rI ft)(hb:Tr rI fu):Tr rI (tG ft fu):=λE h=>by
 have⟨p,h1,h⟩:=bS h;refine(U E h1).bind λb1 O=>?_
 dsimp only;split at h
 .rename_i hp;rw[if_pos hp];cases h;exact .here O
 .rename_i hp;rw[if_neg hp];exact hb O h
theorem DX:Tr rI tYs:=λE h=>by cases h;exact .here E
omit x in
theorem B0(U:Tr rn fa)(hb:Tr rn fb):Tr rn (eAn fa fb):=λE h=>by
 have⟨p,h1,h⟩:=bS h;have⟨x,h2,h⟩:=bS h;refine(U E h1).bind λb1 O=>?_
 dsimp only;rw[uH,h2,qa0];split at h
 .rename_i hp;rw[if_pos hp];exact hb O h
 .rename_i hp;rw[if_neg hp];cases h;exact .here O
theorem B3(O:Tr rn f):Tr rn (eNt f):=λE h=>by
 have⟨p,h1,h⟩:=bS h;have⟨x,h2,h⟩:=bS h;cases h;refine(O E h1).bind λb1 U=>?_
 dsimp only;rw[uH,h2,qa0];exact .here U
theorem B4(O:Tr rn f):Tr rn (eNg f):=λE h=>by
 have⟨p,h1,h⟩:=bS h;have⟨x,h2,h⟩:=bS h;cases h;refine(O E h1).bind λb1 U=>?_
 dsimp only;rw[iC,h2,qa0];exact .here U
omit x in
theorem B5(W:Tr rI ft)(U:Tr rn fa)(hb:Tr rn fb):Tr rn (eIf ft fa fb):=λE h=>by
 have⟨p,h1,h⟩:=bS h;refine(W E h1).bind λb1 O=>?_
 dsimp only;split at h
 .rename_i hp;rw[if_pos hp];exact U O h
 .rename_i hp;rw[if_neg hp];exact hb O h
theorem DY:Tr rnA aNl:=λE h=>by cases h;exact .here E
theorem DZ(O:Tr rn f)(hs:Tr rnA fs):Tr rnA (aCn f fs):=λE h=>by have⟨p,h1,h⟩:=bS h;have⟨q,h2,h⟩:=mS h;cases h;exact(O E h1).bind λb1 U=>(hs U h2).map λ_=>rfl
theorem D0(U:Tr rn fa)(hb:Tr rn fb):Tr rn (eIx fa fb):=λE h=>by
 have⟨p,h1,h⟩:=bS h;have⟨q,h2,h⟩:=bS h;have⟨d,W,h⟩:=bS h;have⟨c,h4,h⟩:=mS h;cases h;refine(U E h1).bind λb1 Y=>(hb Y h2).bind λb2 O=>?_
 dsimp only;rw[O.vw W,qa0,O.ixV h4];exact .here O
omit x in
theorem D3{c i:Nat}(U:Tr rn fa):Tr rn (eAt c i fa):=λ{ρ _ _ _ _ _} E h=>by
 have⟨p,h1,h⟩:=bS h;refine(U E h1).bind λb1 O=>?_
 rcases h
 rename_i j W;rcases h
 rename_i Y l hl;rcases h
 rename_i hc;have⟨x,h2,h⟩:=mS h;cases h;rw[W];rwa[bM,O.get hl,rnO,hc,if_true,qa9,h2,qb2];exact .here O
omit x in
theorem D4(hs:Tr rnA fs):Tr rn (eLs m fs):=λE h=>by
 have⟨p,h1,h⟩:=bS h;rcases h
 rename_i hl;refine(hs E h1).bind λb1 O=>?_
 dsimp only;rw[if_pos ‹hl›];exact O.finL h
omit x in
theorem D5(hs:Tr rnA fs):Tr rn (eTu fs):=λ{ρ _ _ _ _ _} E h=>by
 have⟨p,h1,h⟩:=bS h;rcases h
 rename_i hl;refine(hs E h1).bind λb1 O=>?_
 dsimp only;rw[if_pos ‹hl›,cC,kQ];split at h
 .cases h;exact .here O
 .split at h<;>cases h
  rename_i hs;have⟨U,k2,W⟩:=O.push (.t p.1);rw[if_pos hs];exact⟨_,by rw[<- W];rfl,U,k2⟩
omit x in
theorem zq{n:Nat}(U:TrD F)(hs:Tr rnA fs):Tr rn (eCa n F fs):=λE h=>by
 have⟨p,h1,h⟩:=bS h;unfold kCa at h;rcases h
 rename_i hl;refine(hs E h1).bind λb1 O=>?_
 dsimp only;unfold kCa;rw[if_pos ⟨by rw[qa2];exact hl.1,by rw[kR];exact hl.2⟩];exact U O h
theorem D6{d:Int}(hs:Tr rnA fs):Tr rnA (aDf d fs):=λE h=>by have⟨p,h1,h⟩:=mS h;cases h;exact(hs E h1).map λ_=>by simp[rn]
omit x in
theorem D7{c n:Nat}(Z:TrD F)(W:Tr rn fa)(hs:Tr rnA fs):Tr rn (eMe c n F fa fs):=λ{ρ _ _ _ _ _} E h=>by
 have⟨p,h1,h⟩:=bS h;refine(W E h1).bind λb1 U=>?_
 rcases h
 rename_i j Y;rcases h
 rename_i c' l hl;rcases h
 rename_i hc;have⟨q,h2,h⟩:=bS h;unfold kCa at h;rcases h
 rename_i O;rw[Y];rwa[bM,U.get hl,rnO,hc,if_true];refine(hs U h2).bind λb2 E2=>?_
 unfold kCa;have e:(CV.ref (ρ j)::rnA ρ q.1)=rnA ρ (.ref j::q.1):=rfl;rw[e,if_pos ⟨by rw[qa2];exact O.1,by rw[kR];exact O.2⟩];exact Z E2 h
omit x in
theorem D8{c n:Nat}(hF:TrD F)(hs:Tr rnA fs):Tr rn (eMk c n F fs):=λ{ρ _ _ _ _ _} E h=>by
 have⟨p,h1,h⟩:=bS h;have⟨q,h2,h⟩:=bS h;unfold kCa at h2;rcases h2
 rename_i W;rcases h
 rename_i hq;split at h<;>cases h
 rename_i hlt;refine(hs E h1).bind λb1 Y=>?_
 have⟨k1,k2,U⟩:=Y.push (.ins c []);have⟨b2,O,Z,f2⟩:=hF k1 h2;rw[hq]at O;refine⟨b2,?_,Z,k2.trans f2⟩;have e:(CV.ref b1.length::rnA ρ p.1)=rnA ρ (.ref p.2.length::p.1):=by rw[<- U];rfl
 dsimp only;unfold kCa;rw[e,if_pos ⟨by rw[qa2];exact W.1,by rw[kR];exact W.2⟩];have e2:b1++[CO.ins c []]=b1++[rnO ρ (.ins c [])]:=rfl;rw[e2,O,qa0];have e3:=Z.nw 0;have e4:=Y.nw (q.2.length-p.2.length);rw[show p.2.length+(q.2.length-p.2.length)=q.2.length+0 by lia,e3]at e4;have:b1.length<b2.length:=by lia
 rwa[rn];rw[if_pos this,U]
theorem zr{o:ζ Fg}(U:∀f,o=ς f->Tr rn f):Tr rI (fOp o):=λE h=>by
 cases o with
 |none=>cases h;exact .here E
 |some f=>
  have⟨p,h1,h⟩:=bS h;have⟨i,h2,h⟩:=mS h;cases h;refine(U f rfl E h1).bind λb1 O=>?_
  dsimp only;rw[iC,h2];exact .here O
theorem D9{lo hi:ζ Fg}(U:Tr rn fa)(hl:∀f,lo=ς f->Tr rn f)(hh:∀f,hi=ς f->Tr rn f):Tr rn (eSl m fa lo hi):=λE h=>by
 have⟨p,h1,h⟩:=bS h;have⟨q,h2,h⟩:=bS h;have⟨r,Y,h⟩:=bS h;have⟨d,h4,h⟩:=bS h;have⟨t,W,h⟩:=bS h;refine(U E h1).bind λb1 Z=>(zr hl Z h2).bind λb2 E2=>(zr hh E2 Y).bind λb3 O=>?_
 dsimp only;rw[O.vw h4,qa0,W];exact O.fin h
theorem tr_B{g:η Dt->ζ T}(hs:Tr rnA fs):Tr rn (eB m g fs):=λE h=>by
 have⟨p,h1,h⟩:=bS h;have⟨ds,h2,h⟩:=bS h;have⟨t,U,h⟩:=bS h;refine(hs E h1).bind λb1 O=>?_
 dsimp only;unfold kB;rw[O.vws h2,qa0,U];exact O.fin h
theorem Ea{c:String}(U:Tr rn f):Tr rn (eIs c f):=λE h=>by
 have⟨p,h1,h⟩:=bS h;have⟨d,h2,h⟩:=bS h;cases h;refine(U E h1).bind λb1 O=>?_
 dsimp only;rw[O.vw h2,qa0];exact .here O
omit x in
theorem Eb{g:Dt->η Dt->ζ T}(U:Tr rn fa)(hs:Tr rnA fs):Tr rn (eMt m g fa fs):=λE h=>by
 have⟨p,h1,h⟩:=bS h;refine(U E h1).bind λb1 Y=>?_
 rcases h
 rename_i z hz;have⟨q,h2,h⟩:=bS h;have⟨ds,W,h⟩:=bS h;have⟨t,h4,h⟩:=bS h;rw[hz];rwa[rn];refine(hs Y h2).bind λb2 O=>?_
 dsimp only;rw[O.vws W,qa0,h4];exact O.fin h
theorem Ec{t:Bool}:Tr rn (eDn m t):=λE h=>E.fin h
theorem Ed{b:CH}{c:CV}(E:Em ρ a b)(h:im a c=θ):im b (rn ρ c)=θ:=by
 unfold im at h ⊢;cases c with
 |ref i=>
  dsimp only[rn]at h ⊢;cases q:a[i]? with
  |none=>rw[q]at h;cases h
  |some o=>rw[E.get q];rw[q]at h;cases o<;>first|rfl|cases h
 |g d=>exact h
 |fn x F=>exact h
 |own x t=>exact h
omit x in
theorem Em.getV{b:CH}{c x:CV}{k:Dt}(E:Em ρ a b)(h:getV a c k z=ς x):getV b (rn ρ c) k (rn ρ z)=ς (rn ρ x):=by
 unfold L2.getV at h ⊢;cases c with
 |ref i=>
  dsimp only[rn]at h ⊢;cases q:a[i]? with
  |none=>rw[q]at h;cases h
  |some o=>
   rw[E.get q];rw[q]at h;cases o<;>try(cases h;done)
   all_goals
    have⟨k',h1,rfl⟩:=mS h;rwa[rnO,h1,qb2,oY];rename_i l;cases lkC l k'<;>rfl
 |g d=>have⟨y,h1,h⟩:=bS h;have⟨r,h2,rfl⟩:=mS h;dsimp only[rn];cases h1;rwa[L2.vw,qa0,h2,qb2];cases r<;>rfl
 |fn x F=>cases h
 |own w t=>have⟨y,h1,h⟩:=bS h;have⟨r,h2,rfl⟩:=mS h;dsimp only[rn];have h1:t.d=ς y:=h1;rwa[L2.vw,h1,qa0,h2,qb2];cases r<;>rfl
omit x in
theorem Ee(W:Tr rn fa)(hk:Tr rn fk)(Z:Tr rn fe):Tr rn (eGt fa fk fe):=λE h=>by
 have⟨p,h1,h⟩:=bS h;rcases h
 rename_i hd;have⟨q,h2,h⟩:=bS h;have⟨r,h3,h⟩:=bS h;have⟨k,h4,h⟩:=bS h;rcases h
 rename_i hs;have⟨c,Y,h⟩:=mS h;cases h;refine(W E h1).bind λb1 U=>?_
 dsimp only;rw[if_pos (Ed U hd)];refine(hk U h2).bind λb2 E2=>(Z E2 h3).bind λb3 O=>?_
 dsimp only;rw[O.vw h4,qa0,dW,if_pos hs,O.getV Y];exact .here O
omit x in
theorem Em.itm{b:CH}{c:CV}{l:η (η Key×Dt)}(E:Em ρ a b)(h:nz a c=ς l):nz b (rn ρ c)=ς l:=by
 unfold nz at h ⊢;cases c with
 |ref i=>
  dsimp only[rn]at h ⊢;cases q:a[i]? with
  |none=>rw[q]at h;cases h
  |some o=>
   rw[E.get q];rw[q]at h;cases o<;>try(cases h;done)
   rename_i w;have e:rnP ρ w=w.map λp=>(p.1,rn ρ p.2):=rfl
   have O:(rnP ρ w).map (·.2)=(w.map (·.2)).map (rn ρ):=by simp[qb1]
   have e2:(rnP ρ w).map (·.1)=w.map (·.1):=by simp[qb1]
   rwa[rnO,O,e2,cC];exact h
 |g d=>exact h
 |fn x F=>exact h
 |own w t=>cases t<;>exact h
theorem Ef(U:Tr rn fa):Tr rn (eIl m fa):=λE h=>by
 have⟨p,h1,h⟩:=bS h;have⟨l,h2,h⟩:=bS h;refine(U E h1).bind λb1 O=>?_
 dsimp only;rw[O.itm h2,qa0];exact O.fin h
omit x in
theorem Em.lst{b:CH}{i:Nat}{l:η CV}(E:Em ρ a b)(h:bY a i=ς l):bY b (ρ i)=ς (rnA ρ l)/\a[i]?=ς (.e l):=by
 unfold bY at h ⊢;split at h<;>cases h
 rename_i q;rw[E.get q];exact⟨rfl,q⟩
theorem fW{α β:Type}(f:α->β):∀(l:η α)(i:Nat),(l.map f).eraseIdx i=(l.eraseIdx i).map f
 |[],_=>rfl
 |_::_,0=>rfl
 |x::l,i+1=>by rwa[qa3,List.eraseIdx_cons_succ,fW f l i]
omit x in
theorem B6(Y:Tr rn fa)(he:Tr rn fe):Tr rn (qQ fa fe):=λ{ρ _ _ _ _ _} E h=>by
 have⟨p,h1,h⟩:=bS h;have⟨q,h2,h⟩:=bS h;rcases h
 rename_i i hi;have⟨l0,h3,h⟩:=bS h;have⟨l,h4,h⟩:=bS h;have⟨j,Z,h⟩:=bS h;rcases h
 rename_i hj;have⟨c,W,h⟩:=mS h;cases h;refine(Y E h1).bind λb1 U=>(he U h2).bind λb2 O=>?_
 have⟨k1,k2⟩:=O.set (O.lst h4).2 (.e (l.eraseIdx j.toNat));rw[hi];rwa[bM,(U.lst h3).1,(O.lst h4).1,qa0,iC,Z,qa2];rw[if_pos hj];rwa[qa9,W,qb2];refine⟨_,rfl,?_,?_⟩
 .rw[fW];exact k1
 .rw[fW];exact k2
theorem Em.seq{b:CH}{c:CV}{l:η CV}(E:Em ρ a b)(h:lZ a c=ς l):lZ b (rn ρ c)=ς (rnA ρ l):=by
 have O:∀l:η Dt,rnA ρ (l.map .g)=l.map .g:=λl=>by simp[rn,qb1]
 unfold lZ at h ⊢;cases c with
 |ref i=>
  dsimp only[rn]at h ⊢;cases q:a[i]? with
  |none=>rw[q]at h;cases h
  |some o=>rw[E.get q];rw[q]at h;cases o<;>first|(cases h;done)|(cases h;rfl)
 |g d=>cases d<;>first|(cases h;done)|(cases h;rw[O];rfl)
 |fn x F=>cases h
 |own w t=>cases t<;>first|(cases h;done)|(cases h;rw[O];rfl)
omit x in
theorem Em.pair{b:CH}{c:CV}{p:Key×CV}(E:Em ρ a b)(h:b9 a c=ς p):b9 b (rn ρ c)=ς (p.1,rn ρ p.2):=by
 cases c with
 |ref i=>
  unfold b9 at h ⊢;dsimp only[rn]at h ⊢;rcases h
  rename_i k c hc;have⟨k',h1,rfl⟩:=mS h;rw[E.get hc];rwa[rnO,qa3,qg0,rn,h1,qb2]
 |g d=>
  unfold b9 at h;rcases h
  .rename_i k d e;cases e;have⟨k',h1,rfl⟩:=mS h;rwa[b9,rn,h1,qb2]
  .rename_i e;cases e
 |fn x F=>cases h
 |own w t=>cases h
theorem Em.pairs{b:CH}(E:Em ρ a b):∀{l:η CV}{ps:η (Key×CV)},aP a l=ς ps->aP b (rnA ρ l)=ς (rnP ρ ps)
 |[],ps,h=>by cases h;rfl
 |c::l,ps,h=>by have⟨p,h1,h⟩:=bS h;have⟨O,h2,rfl⟩:=mS h;show(b9 b (rn ρ c)).bind _=_;rw[E.pair h1,qa0,E.pairs h2];rfl
omit x in
theorem Eg(W:Tr rn fa):Tr rn (eDc m fa):=λ{ρ _ _ _ _ _} E h=>by
 have⟨p,h1,h⟩:=bS h;have⟨l,h2,h⟩:=bS h;have⟨ps,Z,h⟩:=bS h;rcases h
 rename_i hn;refine(W E h1).bind λb1 O=>?_
 have U:(rnP ρ ps).map (·.2)=(ps.map (·.2)).map (rn ρ):=by simp[qb1]
 have e2:(rnP ρ ps).map (·.1)=ps.map (·.1):=by simp[qb1]
 dsimp only;rw[O.seq h2,qa0,O.pairs Z,qa0,e2,if_pos hn];unfold l4 at h ⊢;rw[U,e2,cC,kQ];split at h
 .exact O.fin h
 .split at h
  rotate_left
  .cases h
  rename_i hl;cases h;have⟨Y,k2,k3⟩:=O.push (.dK ps);rw[if_pos hl];exact⟨_,by rw[<- k3];rfl,Y,k2⟩
omit x in
theorem Eh(O:Tr rn f):Tr rI (iE f):=λE h=>by
 have⟨p,h1,h⟩:=bS h;refine(O E h1).bind λb1 U=>?_
 rcases h
 rename_i d W;have⟨l,h2,h⟩:=mS h;cases h;rw[W];rwa[rn,h2,qb2];exact .here U
theorem Ei{n:Nat}(hs:Tr rnA fs):Tr rI (iR n fs):=λE h=>by
 have⟨p,h1,h⟩:=bS h;have⟨is,h2,h⟩:=bS h;have⟨l,U,h⟩:=mS h;cases h;refine(hs E h1).bind λb1 O=>?_
 dsimp only;rw[oX,h2,qa0,U];exact .here O
omit x in
theorem Ej(O:Tr rn f):Tr rI (iN f):=λE h=>by
 have⟨p,h1,h⟩:=bS h;refine(O E h1).bind λb1 U=>?_
 rcases h
 all_goals
  rename_i d W;cases h;rw[W];exact .here U
theorem oZ{ρ:Nat->Nat}:∀{is:η Nat}{ds:η Dt}{δ δ':Sl},i8 is ds δ=ς δ'->i8 is ds (rnS ρ δ)=ς (rnS ρ δ')
 |[],[],δ,δ',h=>by cases h;rfl
 |i::is,d::ds,δ,δ',h=>by have:=oZ (ρ:=ρ) (is:=is) (ds:=ds) h;rwa[rnS,qr3,qb2,rn]at this;exact this
 |[],_::_,_,_,h=>by cases h
 |_::_,[],_,_,h=>by cases h
theorem nJ{pt:Pt}{d:Dt}(h:bnd pt d δ=ς δ'):bnd pt d (rnS ρ δ)=ς (rnS ρ δ'):=by
 cases pt with
 |one i=>cases h;rwa[bnd,rnS,qr3,qb2,rn]
 |many is=>cases d<;>first|(cases h;done)|exact oZ h
theorem Ek:gC src (rnS ρ δ)=rnS ρ (gC src δ):=by
 unfold gC rnS;rw[qd2];refine qe8 λo _=>?_
 cases o with
 |none=>rfl
 |some j=>
  show((zf7 (zc9 (rn ρ)) δ)[j]?.join).map lent=(((δ[j]?).join).map lent).map (rn ρ);rw[qa9];cases q:δ[j]? with
  |none=>rfl
  |some x=>cases x with
   |none=>rfl
   |some c=>show ς (lent (rn ρ c))=ς (rn ρ (lent c));rw[oW]
omit x in
theorem kU{pt:Pt}(O:Tr rI ft)(U:Tr rn fe):∀{l:η Dt}{a b:CH}{x:η CV}{a':CH},Em ρ a b->aF (bnd pt) ft fe δ l a=ς (x,a')->GoBq ρ b (aF (bnd pt) ft fe (rnS ρ δ) l b) (rnA ρ x) a'
 |[],a,b,x,a',E,h=>by cases h;exact .here E
 |d::l,a,b,x,a',E,h=>by
  have⟨Z,h1,h⟩:=bS h;have⟨p,h2,h⟩:=bS h;show GoBq ρ b ((bnd pt d (rnS ρ δ)).bind _) _ _;rw[nJ h1,qa0];refine(O E h2).bind λb1 W=>?_
  dsimp only;split at h
  .rename_i hp;rw[if_pos hp];have⟨q,Y,h⟩:=bS h;rcases h
   rename_i hs;have⟨z,h4,h⟩:=mS h;cases h;refine(U W Y).bind λb2 E2=>?_
   dsimp only;rw[dW,if_pos hs];exact(kU O U E2 h4).map λ_=>rfl
  .rename_i hp;rw[if_neg hp];exact kU O U W h
omit x in
theorem El{pt:Pt}(hi:Tr rI fi)(U:Tr rI ft)(W:Tr rn fe):Tr rn (eCo m src fi (bnd pt) ft fe):=λE h=>by
 have⟨p,h1,h⟩:=bS h;have⟨q,h2,h⟩:=bS h;rcases h
 rename_i hl;refine(hi E h1).bind λb1 O=>?_
 dsimp only;rw[Ek];refine(kU U W O h2).bind λb2 Y=>?_
 dsimp only;rw[if_pos ‹hl›];exact Y.finL h
end
noncomputable def Og.hp:Og->CH
 |.nx _ ch|.rt _ ch|.bk _ ch|.ct _ ch=>ch
def Og.mv(ρ:Nat->Nat)(b:CH):Og->Og
 |.nx δ _=>.nx (rnS ρ δ) b
 |.rt c _=>.rt (rn ρ c) b
 |.bk δ _=>.bk (rnS ρ δ) b
 |.ct δ _=>.ct (rnS ρ δ) b
def GoS(ρ:Nat->Nat)(b:CH)(y:ζ Og)(o:Og):Prop:=∃b',y=ς (o.mv ρ b')/\Em ρ o.hp b'/\Kp ρ b b'
def TrS(g:Fs):Prop:=∀{ρ δ a o b},Em ρ a b->g δ a=ς o->GoS ρ b (g (rnS ρ δ) b) o
section
variable{ρ:Nat->Nat}{a b:CH}{α:Type}
theorem GoBq.bindS{y:ζ (α×CH)}{x:α}{k:α×CH->ζ Og}{o:Og}(h:GoBq ρ b y x a')(U:∀b',Em ρ a' b'->GoS ρ b' (k (x,b')) o):GoS ρ b (y.bind k) o:=by have⟨b1,rfl,E,f⟩:=h;have⟨b2,h2,O,W⟩:=U b1 E;exact⟨b2,h2,O,f.trans W⟩
theorem GoS.bind{y:ζ Og}{o' o:Og}{k:Og->ζ Og}(h:GoS ρ b y o')(U:∀b',Em ρ o'.hp b'->GoS ρ b' (k (o'.mv ρ b')) o):GoS ρ b (y.bind k) o:=by have⟨b1,rfl,E,f⟩:=h;have⟨b2,h2,O,W⟩:=U b1 E;exact⟨b2,h2,O,f.trans W⟩
theorem GoS.nx(E:Em ρ a b):GoS ρ b (ς (.nx (rnS ρ δ) b)) (.nx δ a):=⟨b,rfl,E,.refl⟩
theorem GoS.rt{c:CV}(E:Em ρ a b):GoS ρ b (ς (.rt (rn ρ c) b)) (.rt c a):=⟨b,rfl,E,.refl⟩
theorem GoS.put{i:Nat}{w o:CO}(E:Em ρ a b)(O:a[i]?=ς w):GoS ρ b (ς (.nx (rnS ρ δ) (b.set (ρ i) (rnO ρ o)))) (.nx δ (a.set i o)):=let ⟨h1,h2⟩:=E.set O o;⟨_,rfl,h1,h2⟩
end
variable{o':CO}
section
variable{f fa fb fk fe:Fg}{ft fu:FM Bool}{fs:FM (η CV)}{m:Md}{F:Fd}{g g1 g2:Fs}{i:Nat}
theorem B7:TrS dQ:=λE h=>by cases h;exact .nx E
theorem B8(h1:TrS g1)(h2:TrS g2):TrS (aL g1 g2):=λE h=>by
 have⟨o,U,h⟩:=bS h;refine(h1 E U).bind λb1 O=>?_
 cases o with
 |nx δ ch=>exact h2 O h
 |_=>cases h;exact⟨b1,rfl,O,.refl⟩
theorem Eo:TrS sBk:=λE h=>by cases h;exact⟨_,rfl,E,.refl⟩
theorem iD{c:CV}:rnS ρ (δ.set i (ς c))=(rnS ρ δ).set i (ς (rn ρ c)):=by rwa[rnS,qr3,qb2]
omit x in
theorem Ep(U:TrS g):TrS (sFz i g):=λ{ρ δ a o b} E h=>by
 unfold sFz at h ⊢;rcases h
 rename_i t O;have⟨d,h1,h⟩:=bS h;rw[nI O];rwa[rn,h1,qa0];have:=U E h;rw[iD]at this;exact this
theorem Er(O:Tr rn f):TrS (sDr f):=λE h=>by have⟨p,h1,rfl⟩:=mS h;have⟨b1,h2,U,k⟩:=O E h1;exact⟨b1,by unfold sDr;rw[h2];rfl,U,k⟩
omit x in
theorem Es(O:Tr rn f):TrS (sRt f):=λE h=>by
 have⟨p,h1,h⟩:=bS h;split at h<;>cases h
 rename_i hs;refine(O E h1).bindS λb1 U=>?_
 dsimp only;rw[dW,if_pos hs];exact .rt U
theorem Et:TrS sRn:=λE h=>by cases h;exact⟨_,rfl,E,.refl⟩
omit x in
theorem Eu(U:Tr rI ft)(h1:TrS g1)(h2:TrS g2):TrS (sIf ft g1 g2):=λE h=>by
 have⟨p,W,h⟩:=bS h;refine(U E W).bindS λb1 O=>?_
 dsimp only;split at h
 .rename_i hp;rw[if_pos hp];exact h1 O h
 .rename_i hp;rw[if_neg hp];exact h2 O h
omit x in
theorem B9(O:Tr rn f):TrS (i7 i f):=λE h=>by
 have⟨p,h1,h⟩:=bS h;split at h<;>cases h
 rename_i hs;refine(O E h1).bindS λb1 U=>?_
 dsimp only;rw[DT,if_pos hs,<- iD];exact .nx U
theorem kW{pt:Pt}(U:TrS g):∀{l:η Dt}{δ:Sl}{a b:CH}{o:Og},Em ρ a b->cZ (bnd pt) g l δ a=ς o->GoS ρ b (cZ (bnd pt) g l (rnS ρ δ) b) o
 |[],δ,a,b,o,E,h=>by cases h;exact .nx E
 |d::l,δ,a,b,o,E,h=>by
  have⟨Y,h1,h⟩:=bS h;have⟨W,h2,h⟩:=bS h;show GoS ρ b ((bnd pt d (rnS ρ δ)).bind _) _;rw[nJ h1,qa0];refine(U E h2).bind λb1 O=>?_
  cases W with
  |nx δ2 ch2=>exact kW U O h
  |ct δ2 ch2=>exact kW U O h
  |bk δ2 ch2=>cases h;exact .nx O
  |rt c ch2=>cases h;exact .rt O
theorem Ca{pt:Pt}(hi:Tr rI fi)(U:TrS g):TrS (qA fi (bnd pt) g):=λE h=>by have⟨p,h1,h⟩:=bS h;exact(hi E h1).bindS λb1 O=>kW U O h
omit x in
theorem uJ(U:Tr rI ft)(W:TrS g):∀{n:Nat},TrS (whZ ft g n)
 |0,_,_,_,_,_,_,h=>by cases h
 |n+1,ρ,δ,a,o,b,E,h=>by
  have⟨p,h1,h⟩:=bS h;refine(U E h1).bindS λb1 Y=>?_
  dsimp only;split at h
  .rename_i hp;rw[if_pos hp];have⟨Z,h2,h⟩:=bS h;refine(W Y h2).bind λb2 O=>?_
   cases Z with
   |nx δ2 ch2=>exact uJ U W O h
   |ct δ2 ch2=>exact uJ U W O h
   |bk δ2 ch2=>cases h;exact .nx O
   |rt c ch2=>cases h;exact .rt O
  .rename_i hp;rw[if_neg hp];cases h;exact .nx Y
theorem o0{κ:Type}[DecidableEq κ]{ρ:Nat->Nat}{k:κ}{c:CV}:∀l:η (κ×CV),bB (rnP ρ l) k (rn ρ c)=rnP ρ (bB l k c)
 |[]=>rfl
 |p::l=>by
  have O:=o0 (ρ:=ρ) (k:=k) (c:=c) l;rwa[bB,rnP,qa3]at O ⊢;split
  .rfl
  .rw[O];rfl
omit x in
theorem ya{o:CO}{d:Dt}{c:CV}(h:ip o d c=ς o'):ip (rnO ρ o) d (rn ρ c)=ς (rnO ρ o'):=by
 cases o with
 |e l=>have⟨j,h1,h⟩:=bS h;have⟨n,h2,rfl⟩:=mS h;rwa[ip,rnO,h1,qa0,qa2,h2,qb2,qr3]
 |dK l|dT l=>
  have⟨j,h1,h⟩:=bS h;split at h<;>cases h
  rename_i hl;rwa[ip,rnO,h1,qa0,qa2,hl,if_true,o0]
 |t l=>cases h
 |ins c l=>cases h
omit x in
theorem Cb(W:Tr rn fa)(hk:Tr rn fk)(Z:Tr rn fe):TrS (sPt fa fk fe):=λ{ρ _ _ _ _} E h=>by
 have⟨p,h1,h⟩:=bS h;have⟨q,h2,h⟩:=bS h;have⟨r,h3,h⟩:=bS h;rcases h
 rename_i j hj;rcases h
 rename_i hs;have⟨d,h4,h⟩:=bS h;have⟨o',Y,rfl⟩:=mS h;have⟨o,U,h7⟩:=bS Y;refine(Z E h1).bindS λb1 E1=>(W E1 h2).bindS λb2 E2=>(hk E2 h3).bindS λb3 O=>?_
 rw[hj];rwa[bM,dW,hs,if_true,O.vw h4,qa0,O.get U,ya h7,qb2];exact .put O U
theorem uK:dF (rnS ρ δ) i=dF δ i:=by
 unfold dF;rw[qa9];cases q:δ[i]? with
 |none=>rfl
 |some x=>cases x with
  |none=>rfl
  |some c=>cases c<;>rfl
omit x in
theorem o3{c k:Nat}{o:CO}{x:CV}(h:cO c k o x=ς o'):cO c k (rnO ρ o) (rn ρ x)=ς (rnO ρ o'):=by
 cases o<;>try(cases h;done)
 rename_i W l;unfold cO at h ⊢;rwa[rnO,qa2,dW];simp only at h;rcases h
 rename_i hc;rw[if_pos hc];split at h
 .rename_i U;rw[if_pos U];cases h;rwa[qr3,rnO]
 .rename_i U;rw[if_neg U];split at h<;>cases h
  rename_i O;rw[if_pos O];rwa[rnO,qd3,qa3,qg0]
omit x in
theorem Ev{c k:Nat}(W:Tr rn fa)(Z:Tr rn fe):TrS (sFl c k fa fe):=λ{ρ _ _ _ _} E h=>by
 have⟨p,h1,h⟩:=bS h;have⟨q,h2,h⟩:=bS h;rcases h
 rename_i j hj;have⟨o',Y,rfl⟩:=mS h;have⟨o,O,h7⟩:=bS Y;refine(Z E h1).bindS λb1 E1=>(W E1 h2).bindS λb2 U=>?_
 rw[hj];rwa[bM,U.get O,qa0,o3 h7,qb2];exact .put U O
omit x in
theorem Ew{c k:Nat}{op:Int->Int->Int}(ha:Tr rn fa)(Z:Tr rn fe):TrS (sFa c k op fa fe):=λ{ρ _ _ _ _} E h=>by
 have⟨p,h1,h⟩:=bS h;rcases h
 rename_i j hj;rcases h
 rename_i c' l hl;rcases h
 rename_i hc;have⟨x,h2,h⟩:=bS h;have⟨n,h3,h⟩:=bS h;have⟨q,h4,h⟩:=bS h;have⟨n2,h5,h⟩:=bS h;have⟨o',Y,rfl⟩:=mS h;have⟨o,O,h8⟩:=bS Y;refine(ha E h1).bindS λb1 U=>?_
 rw[hj];rwa[bM,U.get hl,rnO,hc,if_true,qa9,h2,qb2,qa0,iC,h3];refine(Z U h4).bindS λb2 W=>?_
 have:=o3 (ρ:=ρ) h8;rw[iB]at this;rwa[iC,h5,qa0,W.get O,this,qb2];exact .put W O
theorem Ex{op:Int->Int->Int}(U:Tr rn fe):TrS (sAu i op fe):=λ{ρ δ _ _ _} E h=>by
 have⟨n,h1,h⟩:=bS h;have⟨q,h2,h⟩:=bS h;have⟨k,W,rfl⟩:=mS h
 have e:((rnS ρ δ)[i]?.join.bind cu)=ς n:=by
  have⟨c,O,k2⟩:=bS h1
  have:δ[i]?=ς (ς c):=by
   cases q:δ[i]? with
   |none=>rw[q]at O;cases O
   |some y=>rw[q]at O;simp at O;rw[O]
  rw[nI this];simp[iC,k2]
 unfold sAu;rw[e,qa0];refine(U E h2).bindS λb2 Y=>?_
 rwa[iC,W,qb2];have e:(rnS ρ δ).set i (ς (.g (.int (op n k))))=rnS ρ _:=(iD (ρ:=ρ) (c:=.g (.int (op n k)))).symm;rw[e];exact .nx Y
omit x in
theorem Ey{pt:Pt}(O:Tr rn fe):TrS (sUn pt fe):=λ{ρ δ _ _ _} E h=>by
 have⟨p,h1,h⟩:=bS h;rcases h
 rename_i d U;have⟨δ',h2,rfl⟩:=mS h;refine(O E h1).bindS λb2 W=>?_
 rw[U];rwa[iB,nJ h2,qb2];exact .nx W
omit x in
theorem Ez(W:Tr rn fa)(Y:Tr rn fe):TrS (sAp fa fe):=λ{ρ δ _ _ _} E h=>by
 have⟨p,h1,h⟩:=bS h;have⟨q,h2,h⟩:=bS h;rcases h
 rename_i j hj;have⟨l0,Z,h⟩:=bS h;have⟨l,h4,h⟩:=bS h;rcases h
 rename_i hl;cases h;refine(W E h1).bindS λb1 U=>(Y U h2).bindS λb2 O=>?_
 rw[hj];rwa[bM,(U.lst Z).1,(O.lst h4).1,qa0,qa2,dW];rw[if_pos hl];have:=GoS.put (δ:=δ) (o:=.e (l++[q.1])) O (O.lst h4).2;rwa[rnO,qd3,qa3,qg0]at this;exact this
omit x in
theorem Cc(O:Tr rn fe):TrS (sAs i fe):=λ{ρ δ _ _ _} E h=>by
 have⟨q,h2,h⟩:=bS h;rcases h
 rename_i d l U hl;rcases h
 rename_i hz;cases h;refine(O E h2).bindS λb2 W=>?_
 rw[U];rwa[iB,uK,hl];rw[if_pos hz];have e:(rnS ρ δ).set i (ς (.own θ (.e (l++[d]))))=rnS ρ _:=(iD (ρ:=ρ) (c:=.own θ (.e (l++[d])))).symm;rw[e];exact .nx W
omit x in
theorem EA{t:Bool}(Y:Tr rn fa):TrS (sCl t fa):=λ{ρ _ _ _ _} E h=>by
 have⟨p,h1,h⟩:=bS h;rcases h
 rename_i j hj;have⟨o',Z,rfl⟩:=mS h;have⟨o,O,U⟩:=bS Z;refine(Y E h1).bindS λb2 W=>?_
 have e:BK t (rnO ρ o)=ς (rnO ρ o'):=by cases o<;>cases t<;>first|(cases U;done)|(cases U;rfl)
 rw[hj];rwa[bM,W.get O,qa0,e,qb2];exact .put W O
omit x in
theorem Cd:TrS (sCs i):=λ{ρ δ _ _ _} E h=>by
 unfold sCs at h ⊢;split at h<;>cases h
 rename_i l hl;rw[uK,hl];have e:(rnS ρ δ).set i (ς (.own θ (.e [])))=rnS ρ _:=(iD (ρ:=ρ) (c:=.own θ (.e []))).symm;dsimp only;rw[e];exact .nx E
omit x in
theorem Em.dk{b:CH}{i:Nat}{l:η (Key×CV)}(E:Em ρ a b)(h:gp a i=ς l):gp b (ρ i)=ς (rnP ρ l)/\a[i]?=ς (.dK l):=by
 unfold gp at h ⊢;split at h<;>cases h
 rename_i q;rw[E.get q];exact⟨rfl,q⟩
omit x in
theorem EB(W:Tr rn fa)(Z:Tr rn fe):TrS (sUp fa fe):=λ{ρ δ _ _ _} E h=>by
 have⟨p,h1,h⟩:=bS h;have⟨q,h2,h⟩:=bS h;rcases h
 rename_i i j hi hj;have⟨l0,h3,h⟩:=bS h;have⟨l,h4,h⟩:=bS h;have⟨n,Y,h⟩:=bS h;rcases h
 rename_i hl;cases h;refine(W E h1).bindS λb1 U=>(Z U h2).bindS λb2 O=>?_
 rw[hi,hj];have e:((rnP ρ l++rnP ρ n).map (·.1))=(l++n).map (·.1):=by simp[qb1]
 rwa[bM,(U.dk h3).1,(O.dk h4).1,(O.dk Y).1,qa0];rw[if_pos ⟨λz=>hl.1 (O.inj _ _ z),by rw[e];exact hl.2.1,‹hl.2.2›⟩];have:=GoS.put (δ:=δ) (o:=.dK (l++n)) O (O.dk h4).2;rwa[rnO,rnP,qd3]at this;exact this
end
def TrN:EnBq->Prop
 |.fn _ _ F|.fd _ _ _ F|.me _ _ _ F|.mk _ _ F=>TrD F
section
variable{tb:Tb}
theorem bh:Tr rn nF:=λ_ h=>by cases h
theorem ae{α:Type}{R:(Nat->Nat)->α->α}:Tr R (λ_ _=>ψ):=λ_ h=>by cases h
theorem tr_E(Y:∀e∈tb.f,TrN e):∀e:E,Tr rn (evE tb e)/\Tr rI (evT tb e)/\Tr rnA (evA tb e)/\Tr rI (evI tb e)/\(∀f,evO tb e=ς f->Tr rn f)/\Tr rI (iZ (evE tb e)):=by
 have one:∀{e:E},Tr rn (evE tb e)->Tr rI (evT tb e)->Tr rnA (evA tb e)->Tr rI (evI tb e)->(∀f,evO tb e=ς f->Tr rn f)->Tr rn (evE tb e)/\Tr rI (evT tb e)/\Tr rnA (evA tb e)/\Tr rI (evI tb e)/\(∀f,evO tb e=ς f->Tr rn f)/\Tr rI (iZ (evE tb e)):=λh1 h2 h3 h4 h5=>⟨h1,h2,h3,h4,h5,uI h1⟩
 have no:∀f,ς nF=ς f->Tr rn f:=λf h=>by cases h;exact bh
 intro e;induction e with
 |k d=>exact one tr_K (@ae _ _) (@ae _ _) (@ae _ _) no
 |v i=>exact one tr_V (@ae _ _) (@ae _ _) (@ae _ _) no
 |g j=>
  refine one ?_ (@ae _ _) (@ae _ _) (@ae _ _) no;show Tr rn (gcE tb.gc[j]?);cases tb.gc[j]? with
  |none=>show Tr rn nF;exact bh
  |some p=>show Tr rn (eK p.2);exact tr_K
 |b2 o m x y O U=>exact one (tr_2 O.1 U.1) (@ae _ _) (@ae _ _) (@ae _ _) no
 |nt x O=>exact one (B3 O.1) (@ae _ _) (@ae _ _) (@ae _ _) no
 |ng x O=>exact one (B4 O.1) (@ae _ _) (@ae _ _) (@ae _ _) no
 |an x y O U=>exact one (B0 O.1 U.1) (@ae _ _) (@ae _ _) (@ae _ _) no
 |cd c x y hc O U=>exact one (B5 hc.2.1 O.1 U.1) (@ae _ _) (@ae _ _) (@ae _ _) no
 |tr x O=>refine one bh ?_ (@ae _ _) (@ae _ _) no;have h0:Tr rI (gm (evE tb x)):=BZ O.1;have h1:Tr rI (iZ (evE tb x)):=uI O.1;cases x<;>first|exact @h0|exact @h1
 |tn x O=>exact one bh (DU O.2.1) (@ae _ _) (@ae _ _) no
 |ta x y O U=>exact one bh (DV O.2.1 U.2.1) (@ae _ _) (@ae _ _) no
 |to x y O U=>exact one bh (DW O.2.1 U.2.1) (@ae _ _) (@ae _ _) no
 |bn o m as hs=>exact one (tr_B hs.2.2.1) (@ae _ _) (@ae _ _) (@ae _ _) no
 |ii c x O=>exact one (Ea O.1) (@ae _ _) (@ae _ _) (@ae _ _) no
 |ms o m x as O hs=>exact one (Eb O.1 hs.2.2.1) (@ae _ _) (@ae _ _) (@ae _ _) no
 |gt x k e O hk Z=>exact one (Ee O.1 hk.1 Z.1) (@ae _ _) (@ae _ _) (@ae _ _) no
 |ca j as hs=>
  refine one ?_ (@ae _ _) (@ae _ _) (@ae _ _) no;show Tr rn (caE (evA tb as) tb.f[j]?);cases h:tb.f[j]? with
  |none=>show Tr rn nF;exact bh
  |some q=>
   have W:=Y _ (qa4 h);cases q with
   |fn x n F=>show Tr rn (eCa n F (evA tb as));exact zq W hs.2.2.1
   |fd x n d F=>show Tr rn (eCa n F (aDf d (evA tb as)));exact zq W (D6 hs.2.2.1)
   |_=>show Tr rn nF;exact bh
 |me j o as ho hs=>
  refine one ?_ (@ae _ _) (@ae _ _) (@ae _ _) no;show Tr rn (meE (evE tb o) (evA tb as) tb.f[j]?);cases h:tb.f[j]? with
  |none=>show Tr rn nF;exact bh
  |some q=>
   have W:=Y _ (qa4 h);cases q with
   |me c x n F=>show Tr rn (eMe c n F (evE tb o) (evA tb as));exact D7 W ho.1 hs.2.2.1
   |_=>show Tr rn nF;exact bh
 |mk j as hs=>
  refine one ?_ (@ae _ _) (@ae _ _) (@ae _ _) no;show Tr rn (mkE (evA tb as) tb.f[j]?);cases h:tb.f[j]? with
  |none=>show Tr rn nF;exact bh
  |some q=>
   have W:=Y _ (qa4 h);cases q with
   |mk c n F=>show Tr rn (eMk c n F (evA tb as));exact D8 W hs.2.2.1
   |_=>show Tr rn nF;exact bh
 |«at» c f o ho=>exact one (D3 ho.1) (@ae _ _) (@ae _ _) (@ae _ _) no
 |ix x y O U=>exact one (D0 O.1 U.1) (@ae _ _) (@ae _ _) (@ae _ _) no
 |sl m x lo hi O hl hh=>exact one (D9 O.1 hl.2.2.2.2.1 hh.2.2.2.2.1) (@ae _ _) (@ae _ _) (@ae _ _) no
 |no=>exact one bh (@ae _ _) (@ae _ _) (@ae _ _) (λf h=>by cases h)
 |ls m as hs=>exact one (D4 hs.2.2.1) (@ae _ _) (@ae _ _) (@ae _ _) no
 |tu as hs=>exact one (D5 hs.2.2.1) (@ae _ _) (@ae _ _) (@ae _ _) no
 |dn m t=>exact one Ec (@ae _ _) (@ae _ _) (@ae _ _) no
 |il m x O=>exact one (Ef O.1) (@ae _ _) (@ae _ _) (@ae _ _) no
 |pp x y O U=>exact one (B6 O.1 U.1) (@ae _ _) (@ae _ _) (@ae _ _) no
 |dc m x O=>exact one (Eg O.1) (@ae _ _) (@ae _ _) (@ae _ _) no
 |co m src pt it c e hi hc Z=>exact one (El hi.2.2.2.1 hc.2.1 Z.1) (@ae _ _) (@ae _ _) (@ae _ _) no
 |ys=>exact one bh DX (@ae _ _) (@ae _ _) no
 |it x O=>exact one bh (@ae _ _) (@ae _ _) (Eh O.1) no
 |rg as hs=>exact one bh (@ae _ _) (@ae _ _) (Ei hs.2.2.1) no
 |en x O=>exact one bh (@ae _ _) (@ae _ _) (Ej O.1) no
 |nil=>exact one bh (@ae _ _) DY (@ae _ _) no
 |cons x as O hs=>exact one bh (@ae _ _) (DZ O.1 hs.2.2.1) (@ae _ _) (λf h=>by cases h;exact O.1)
theorem yb(Y:∀e∈tb.f,TrN e):∀s:S,TrS (evS tb s):=by
 have O:=tr_E Y;intro s;induction s with
 |nil=>exact B7
 |sq s r hs W=>exact B8 hs W
 |fz i r W=>exact Ep W
 |set i e=>exact B9 (O e).1
 |un pt e=>exact Ey (O e).1
 |put x k e=>exact Cb (O x).1 (O k).1 (O e).1
 |fl c f o e=>exact Ev (O o).1 (O e).1
 |fa c f o x e=>exact Ew (O x).1 (O e).1
 |au i o e=>exact Ex (O e).1
 |dr e=>exact Er (O e).1
 |ap x e=>exact Ez (O x).1 (O e).1
 |aps i e=>exact Cc (O e).1
 |cl t x=>exact EA (O x).1
 |cls i=>exact Cd
 |up x e=>exact EB (O x).1 (O e).1
 |rt e=>exact Es (O e).1
 |rn=>exact Et
 |bk=>exact Eo
 |cd c x y U Z=>exact Eu (O c).2.1 U Z
 |fo pt it x U=>exact Ca (O it).2.2.2.1 U
 |wh n c x U=>exact uJ (O c).2.1 U
end
variable{m:Nat}
omit x in
theorem o4{g:Fs}(U:TrS g):TrD (cP m g):=λ{ρ cs a x a' b} E h=>by
 unfold cP at h;have e:(cs.map (rn ρ)).map ς++qb0 (m-(cs.map (rn ρ)).length) ψ=rnS ρ (cs.map ς++qb0 (m-cs.length) ψ):=by simp[rnS,qb1]
 split at h<;>cases h
 .rename_i q;have⟨b1,h1,O,k⟩:=U E q;exact⟨b1,by unfold cP;rw[e,h1];rfl,O,k⟩
 .rename_i q;have⟨b1,h1,O,k⟩:=U E q;exact⟨b1,by unfold cP;rw[e,h1];rfl,O,k⟩
theorem dz{gc:η (Str×Dt)}:∀ds:η Df,∀e∈(ay gc ds).f,TrN e
 |[],e,h=>by cases h
 |d::r,e,h=>by
  have O:=dz (gc:=gc) r;rcases qb9.mp h with rfl|h
  .have:TrD (cP d.m (evS (ay gc r) d.b)):=o4 (yb O d.b);unfold Df.en;cases d.kd<;>exact @this
  .exact O e h
theorem ai{gc:η (Str×Dt)}(ds:η Df):TrD (FF gc ds):=by
 cases ds with
 |nil=>exact λ_ h=>by cases h
 |cons d r=>exact o4 (yb (dz r) d.b)
def bD(t:η Df):η EnBq:=(ay gc t).f
theorem bDf{t:η Df}:(ay gc t).f=bD t:=rfl
theorem gc0:gc[0]?=ς ((PySem.Str.ofString "WIDE":Str),Dt.int 1099511627776):=rfl
def F0:=FF gc t1
theorem u0:bD t1=d0.en F0::bD t0:=rfl
def F1:=FF gc t2
theorem u1:bD t2=d1.en F1::bD t1:=rfl
def F2:=FF gc t3
theorem u2:bD t3=d2.en F2::bD t2:=rfl
def F3:=FF gc t4
theorem u3:bD t4=d3.en F3::bD t3:=rfl
def F4:=FF gc t5
theorem u4:bD t5=d4.en F4::bD t4:=rfl
def F5:=FF gc t6
theorem u5:bD t6=d5.en F5::bD t5:=rfl
def F6:=FF gc t7
theorem u6:bD t7=d6.en F6::bD t6:=rfl
def F7:=FF gc t8
theorem u7:bD t8=d7.en F7::bD t7:=rfl
def F8:=FF gc t9
theorem u8:bD t9=d8.en F8::bD t8:=rfl
def F9:=FF gc t10
theorem u9:bD t10=d9.en F9::bD t9:=rfl
def F10:=FF gc t11
theorem u10:bD t11=d10.en F10::bD t10:=rfl
def F11:=FF gc t12
theorem u11:bD t12=d11.en F11::bD t11:=rfl
def F12:=FF gc t13
theorem u12:bD t13=d12.en F12::bD t12:=rfl
def F13:=FF gc t14
theorem u13:bD t14=d13.en F13::bD t13:=rfl
def F14:=FF gc t15
theorem u14:bD t15=d14.en F14::bD t14:=rfl
def F15:=FF gc t16
theorem u15:bD t16=d15.en F15::bD t15:=rfl
def F16:=FF gc t17
theorem u16:bD t17=d16.en F16::bD t16:=rfl
def F17:=FF gc t18
theorem u17:bD t18=d17.en F17::bD t17:=rfl
def F18:=FF gc t19
theorem u18:bD t19=d18.en F18::bD t18:=rfl
def F19:=FF gc t20
theorem u19:bD t20=d19.en F19::bD t19:=rfl
def F20:=FF gc t21
theorem u20:bD t21=d20.en F20::bD t20:=rfl
def F21:=FF gc t22
theorem u21:bD t22=d21.en F21::bD t21:=rfl
def F22:=FF gc t23
theorem u22:bD t23=d22.en F22::bD t22:=rfl
def F23:=FF gc t24
theorem u23:bD t24=d23.en F23::bD t23:=rfl
def F24:=FF gc t25
theorem u24:bD t25=d24.en F24::bD t24:=rfl
def F25:=FF gc t26
theorem u25:bD t26=d25.en F25::bD t25:=rfl
def F26:=FF gc t27
theorem u26:bD t27=d26.en F26::bD t26:=rfl
def F27:=FF gc t28
theorem u27:bD t28=d27.en F27::bD t27:=rfl
def F28:=FF gc t29
theorem u28:bD t29=d28.en F28::bD t28:=rfl
def F29:=FF gc t30
theorem u29:bD t30=d29.en F29::bD t29:=rfl
def F30:=FF gc t31
theorem u30:bD t31=d30.en F30::bD t30:=rfl
def F31:=FF gc t32
theorem u31:bD t32=d31.en F31::bD t31:=rfl
def F32:=FF gc t33
theorem u32:bD t33=d32.en F32::bD t32:=rfl
def F33:=FF gc t34
theorem u33:bD t34=d33.en F33::bD t33:=rfl
def F34:=FF gc t35
theorem u34:bD t35=d34.en F34::bD t34:=rfl
def F35:=FF gc t36
theorem u35:bD t36=d35.en F35::bD t35:=rfl
def F36:=FF gc t37
theorem u36:bD t37=d36.en F36::bD t36:=rfl
def F37:=FF gc t38
theorem u37:bD t38=d37.en F37::bD t37:=rfl
def F38:=FF gc t39
theorem u38:bD t39=d38.en F38::bD t38:=rfl
def F39:=FF gc t40
theorem u39:bD t40=d39.en F39::bD t39:=rfl
def F40:=FF gc t41
theorem u40:bD t41=d40.en F40::bD t40:=rfl
def F41:=FF gc t42
theorem u41:bD t42=d41.en F41::bD t41:=rfl
def F42:=FF gc t43
theorem u42:bD t43=d42.en F42::bD t42:=rfl
def F43:=FF gc t44
theorem u43:bD t44=d43.en F43::bD t43:=rfl
def F44:=FF gc t45
theorem u44:bD t45=d44.en F44::bD t44:=rfl
def F45:=FF gc t46
theorem u45:bD t46=d45.en F45::bD t45:=rfl
def F46:=FF gc t47
theorem u46:bD t47=d46.en F46::bD t46:=rfl
def F47:=FF gc t48
theorem u47:bD t48=d47.en F47::bD t47:=rfl
def F48:=FF gc t49
theorem u48:bD t49=d48.en F48::bD t48:=rfl
def F49:=FF gc t50
theorem u49:bD t50=d49.en F49::bD t49:=rfl
def F50:=FF gc t51
theorem u50:bD t51=d50.en F50::bD t50:=rfl
def F51:=FF gc t52
theorem u51:bD t52=d51.en F51::bD t51:=rfl
def F52:=FF gc t53
theorem u52:bD t53=d52.en F52::bD t52:=rfl
def F53:=FF gc t54
theorem u53:bD t54=d53.en F53::bD t53:=rfl
def F54:=FF gc t55
theorem u54:bD t55=d54.en F54::bD t54:=rfl
def F55:=FF gc t56
theorem u55:bD t56=d55.en F55::bD t55:=rfl
def F56:=FF gc t57
theorem u56:bD t57=d56.en F56::bD t56:=rfl
def F57:=FF gc t58
theorem u57:bD t58=d57.en F57::bD t57:=rfl
def F58:=FF gc t59
theorem u58:bD t59=d58.en F58::bD t58:=rfl
def F59:=FF gc t60
theorem u59:bD t60=d59.en F59::bD t59:=rfl
def F60:=FF gc t61
theorem u60:bD t61=d60.en F60::bD t60:=rfl
def F61:=FF gc t62
theorem u61:bD t62=d61.en F61::bD t61:=rfl
def F62:=FF gc t63
theorem u62:bD t63=d62.en F62::bD t62:=rfl
def F63:=FF gc t64
theorem u63:bD t64=d63.en F63::bD t63:=rfl
def F64:=FF gc t65
theorem u64:bD t65=d64.en F64::bD t64:=rfl
def F65:=FF gc t66
theorem u65:bD t66=d65.en F65::bD t65:=rfl
def F66:=FF gc t67
theorem u66:bD t67=d66.en F66::bD t66:=rfl
def F67:=FF gc t68
theorem u67:bD t68=d67.en F67::bD t67:=rfl
def F68:=FF gc t69
theorem u68:bD t69=d68.en F68::bD t68:=rfl
def F69:=FF gc t70
theorem u69:bD t70=d69.en F69::bD t69:=rfl
def F70:=FF gc t71
theorem u70:bD t71=d70.en F70::bD t70:=rfl
def F71:=FF gc t72
theorem u71:bD t72=d71.en F71::bD t71:=rfl
def F72:=FF gc t73
theorem u72:bD t73=d72.en F72::bD t72:=rfl
def F73:=FF gc t74
theorem u73:bD t74=d73.en F73::bD t73:=rfl
def F74:=FF gc t75
theorem u74:bD t75=d74.en F74::bD t74:=rfl
def F75:=FF gc t76
theorem u75:bD t76=d75.en F75::bD t75:=rfl
def F76:=FF gc t77
theorem u76:bD t77=d76.en F76::bD t76:=rfl
def F77:=FF gc t78
theorem u77:bD t78=d77.en F77::bD t77:=rfl
def F78:=FF gc t79
theorem u78:bD t79=d78.en F78::bD t78:=rfl
def F79:=FF gc t80
theorem u79:bD t80=d79.en F79::bD t79:=rfl
def F80:=FF gc t81
theorem u80:bD t81=d80.en F80::bD t80:=rfl
def F81:=FF gc t82
theorem u81:bD t82=d81.en F81::bD t81:=rfl
def F82:=FF gc t83
theorem u82:bD t83=d82.en F82::bD t82:=rfl
def F83:=FF gc t84
theorem u83:bD t84=d83.en F83::bD t83:=rfl
def F84:=FF gc t85
theorem u84:bD t85=d84.en F84::bD t84:=rfl
def F85:=FF gc t86
theorem u85:bD t86=d85.en F85::bD t85:=rfl
def F86:=FF gc t87
theorem u86:bD t87=d86.en F86::bD t86:=rfl
def qq:=(by and_intros<;>(show cP _ (evS (ay _ _) _)=_;rwa[L2.vN0,L2.vN1,L2.vN2,L2.vN3,L2.vN4,L2.vN5,L2.vN6,L2.vN7,L2.vN8,L2.vN9,L2.vN10,L2.uG,L2.nH,L2.BU,L2.qZ,L2.sL,L2.xLit,L2.xAdd,L2.xSub,L2.xMul,L2.xMod,L2.xDiv,L2.xIx,L2.tsE,L2.tsL,L2.tsN,L2.tsG,L2.eLn,L2.rG1,L2.aT0,L2.mE0,L2.cO0,L2.cR0,L2.sLb,L2.bDf,L2.caE,L2.meE,L2.mkE,L2.gcE,L2.zk0,L2.zk1,L2.zk2,L2.zk3,L2.zk4,L2.zk5,L2.zk6,L2.zk7,L2.zk8,L2.zk9,L2.zk10,L2.zk11,L2.zk12,L2.zk13,L2.zk14,L2.zk15,L2.zk16,L2.zk17,L2.zk18,L2.zk19,L2.zk20,L2.zk21,L2.zk22,L2.zk23,L2.zk24,L2.zk25,L2.zk26,L2.zk27,L2.zk28,L2.zk29,L2.zk30,L2.zk31,L2.zk32,L2.zk33,L2.zk34,L2.zk35,L2.zk36,L2.zk37,L2.zk38,L2.zk39,L2.zk40,L2.zk41,L2.zk42,L2.zk43,L2.zk44,L2.zk45,L2.zk46,L2.zk47,L2.zk48,L2.zk49,L2.zk50,L2.zk51,L2.zk52,L2.zk53,L2.zk54,L2.zk55,L2.zk56,L2.zk57,L2.zk58,L2.zk59,L2.Df.en,L2.iz,L2.uw,L2.kI,L2.kS,L2.A1,L2.A2,L2.A3,L2.A4,L2.A5,L2.gc0,L2.d0,L2.d1,L2.d2,L2.d3,L2.d4,L2.d5,L2.d6,L2.d7,L2.d8,L2.d9,L2.d10,L2.d11,L2.d12,L2.d13,L2.d14,L2.d15,L2.d16,L2.d17,L2.d18,L2.d19,L2.d20,L2.d21,L2.d22,L2.d23,L2.d24,L2.d25,L2.d26,L2.d27,L2.d28,L2.d29,L2.d30,L2.d31,L2.d32,L2.d33,L2.d34,L2.d35,L2.d36,L2.d37,L2.d38,L2.d39,L2.d40,L2.d41,L2.d42,L2.d43,L2.d44,L2.d45,L2.d46,L2.d47,L2.d48,L2.d49,L2.d50,L2.d51,L2.d52,L2.d53,L2.d54,L2.d55,L2.d56,L2.d57,L2.d58,L2.d59,L2.d60,L2.d61,L2.d62,L2.d63,L2.d64,L2.d65,L2.d66,L2.d67,L2.d68,L2.d69,L2.d70,L2.d71,L2.d72,L2.d73,L2.d74,L2.d75,L2.d76,L2.d77,L2.d78,L2.d79,L2.d80,L2.d81,L2.d82,L2.d83,L2.d84,L2.d85,L2.d86,L2.u0,L2.u1,L2.u2,L2.u3,L2.u4,L2.u5,L2.u6,L2.u7,L2.u8,L2.u9,L2.u10,L2.u11,L2.u12,L2.u13,L2.u14,L2.u15,L2.u16,L2.u17,L2.u18,L2.u19,L2.u20,L2.u21,L2.u22,L2.u23,L2.u24,L2.u25,L2.u26,L2.u27,L2.u28,L2.u29,L2.u30,L2.u31,L2.u32,L2.u33,L2.u34,L2.u35,L2.u36,L2.u37,L2.u38,L2.u39,L2.u40,L2.u41,L2.u42,L2.u43,L2.u44,L2.u45,L2.u46,L2.u47,L2.u48,L2.u49,L2.u50,L2.u51,L2.u52,L2.u53,L2.u54,L2.u55,L2.u56,L2.u57,L2.u58,L2.u59,L2.u60,L2.u61,L2.u62,L2.u63,L2.u64,L2.u65,L2.u66,L2.u67,L2.u68,L2.u69,L2.u70,L2.u71,L2.u72,L2.u73,L2.u74,L2.u75,L2.u76,L2.u77,L2.u78,L2.u79,L2.u80,L2.u81,L2.u82,L2.u83,L2.u84,L2.u85,L2.u86,qd1,qg3];rfl):F0=_/\F1=_/\F2=_/\F4=_/\F8=_/\F9=_/\F12=_/\F13=_/\F17=_/\F18=_/\F20=_/\F21=_/\F22=_/\F28=_)
def q0:=qq.1
def q1:=qq.2.1
def q2:=qq.2.2.1
def q4:=qq.2.2.2.1
def q8:=qq.2.2.2.2.1
def q9:=qq.2.2.2.2.2.1
def q12:=qq.2.2.2.2.2.2.1
def q13:=qq.2.2.2.2.2.2.2.1
def q17:=qq.2.2.2.2.2.2.2.2.1
def q18:=qq.2.2.2.2.2.2.2.2.2.1
def q20:=qq.2.2.2.2.2.2.2.2.2.2.1
def q21:=qq.2.2.2.2.2.2.2.2.2.2.2.1
def q22:=qq.2.2.2.2.2.2.2.2.2.2.2.2.1
def q28:=qq.2.2.2.2.2.2.2.2.2.2.2.2.2
noncomputable def clV(n:Nat):CV->Bool
 |.ref i=>decide (i<n)
 |_=>θ
noncomputable def clO(n:Nat):CO->Bool
 |.e l=>l.all (clV n)
 |.t l=>l.all (clV n)
 |.dK l=>l.all λp=>clV n p.2
 |.dT l=>l.all λp=>clV n p.2
 |.ins _ l=>l.all (clV n)
def Cl(cs:CH):Prop:=cs.all (clO cs.length)=θ
structure At(ρ:Nat->Nat)(cs b:CH):Prop where
 inj:∀i j,i<cs.length->j<cs.length->ρ i=ρ j->i=j
 get:∀{i o},cs[i]?=ς o->b[ρ i]?=ς (rnO ρ o)
noncomputable def hat(ρ:Nat->Nat)(n m:Nat):Nat->Nat:=λi=>if i<n then ρ i else m+(i-n)
variable{cs':CH}
section
variable{ρ ρ' σ:Nat->Nat}{a b cs ds:CH}{n:Nat}
theorem uL{c:CV}(h:clV n c=θ)(e:∀i,i<n->ρ i=ρ' i):rn ρ c=rn ρ' c:=by
 cases c with
 |ref i=>simp only[rn,e i (by simpa[clV] using h)]
 |_=>rfl
theorem o5{l:η CV}(h:l.all (clV n)=θ)(e:∀i,i<n->ρ i=ρ' i):l.map (rn ρ)=l.map (rn ρ'):=qe8 λc hc=>uL (qc9.mp h c hc) e
theorem Ce{o:CO}(h:clO n o=θ)(e:∀i,i<n->ρ i=ρ' i):rnO ρ o=rnO ρ' o:=by
 cases o with
 |e l|t l|ins c l=>rwa[rnO,o5 h e]
 |dK l|dT l=>rwa[rnO,rnP];rw[qe8 λp hp=>by rw[uL (qc9.mp h p hp) e]]
theorem EC{c:CV}:rn ρ (rn σ c)=rn (λi=>ρ (σ i)) c:=by cases c<;>rfl
theorem o6{o:CO}:rnO ρ (rnO σ o)=rnO (λi=>ρ (σ i)) o:=by cases o<;>rwa[rnO,rnP,qd2,qb1,EC]
theorem At.lt(h:At ρ cs b){i:Nat}(hi:i<cs.length):ρ i<b.length:=aj (h.get (gQ hi))
theorem At.em(h:At ρ cs b)(hc:Cl cs):Em (hat ρ cs.length b.length) cs b:=by
 have U:∀i,i<cs.length->hat ρ cs.length b.length i=ρ i:=λi hi=>if_pos hi
 have e2:∀i,cs.length<=i->hat ρ cs.length b.length i=b.length+(i-cs.length):=λi hi=>if_neg Θ
 refine⟨λi j e=>?_,λ{i o} hi=>?_,λk=>by rw[e2 _ Θ];lia⟩
 .rcases qj9 i cs.length with hi|hi<;>rcases qj9 j cs.length with O|O
  .rw[U i hi,U j O]at e;exact h.inj i j hi O e
  .rw[U i hi,e2 j O]at e;have:=h.lt hi;lia
  .rw[e2 i hi,U j O]at e;have:=h.lt O;lia
  .rw[e2 i hi,e2 j O]at e;lia
 .have hl:=aj hi;rw[U i hl,h.get hi,Ce (qc9.mp hc o (qa4 hi)) λk W=>(U k W).symm]
theorem At.comp(h:Em ρ a b)(k:At σ ds a):At (λi=>ρ (σ i)) ds b:=⟨λi j hi O e=>k.inj i j hi O (h.inj _ _ e),λhi=>by rw[h.get (k.get hi),o6]⟩
structure Fr(ρ:Nat->Nat)(n:Nat)(b b':CH):Prop where
 le:b.length<=b'.length
 kp:∀j,j<b.length->(∀i,i<n->ρ i≠j)->b'[j]?=b[j]?
def Sb(ρ:Nat->Nat)(n:Nat)(b:CH)(ρ':Nat->Nat)(n':Nat):Prop:=∀i,i<n'->(∃k,k<n/\ρ' i=ρ k)\/b.length<=ρ' i
theorem Em.fr(h:At ρ cs b)(hc:Cl cs)(E:Em (hat ρ cs.length b.length) a b')(k:Kp (hat ρ cs.length b.length) b b')(hl:cs.length<=a.length):Fr ρ cs.length b b':=by
 have O:=E.nw 0;have:hat ρ cs.length b.length (a.length+0)=b.length+(a.length-cs.length):=if_neg Θ;refine⟨Θ,λj U hi=>k j λi=>?_⟩;unfold hat
 split
 .exact hi i (by assumption)
 .lia
def Rn(F:Fd)(args:η CV)(cs:CH)(d:Dt)(ds:CH):Prop:=∀ ρ b,At ρ cs b->∃ ρ' b',F (rnA ρ args) b=ς (.g d,b')/\At ρ' ds b'/\ρ' 0=ρ 0/\Fr ρ cs.length b b'/\Sb ρ cs.length b ρ' ds.length
theorem At.go{F:Fd}{args:η CV}{x:CV}(U:TrD F)(h:At ρ cs b)(hc:Cl cs)(O:args.all (clV cs.length)=θ)(Y:F args cs=ς (x,cs')):∃b',F (rnA ρ args) b=ς (rn (hat ρ cs.length b.length) x,b')/\Em (hat ρ cs.length b.length) cs' b'/\Kp (hat ρ cs.length b.length) b b':=by
 have⟨b',h1,h2,W⟩:=U (h.em hc) Y;have e:rnA (hat ρ cs.length b.length) args=rnA ρ args:=o5 O λi hi=>if_pos hi
 rw[e]at h1;exact⟨b',h1,h2,W⟩
theorem Rn.of{F:Fd}{args:η CV}{d:Dt}(Y:TrD F)(hc:Cl cs)(O:args.all (clV cs.length)=θ)(Z:F args cs=ς (.g d,cs'))(hl:cs.length<=cs'.length)(hs:At σ ds cs')(U:σ 0=0)(W:0<cs.length):Rn F args cs d ds:=λρ b h=>by
 have⟨b',h1,E,k⟩:=h.go Y hc O Z;refine⟨_,b',h1,At.comp E hs,by show hat _ _ _ (σ 0)=_;rw[U];exact if_pos W,Em.fr h hc E k hl,λi hi=>?_⟩;show(∃j,j<cs.length/\hat ρ cs.length b.length (σ i)=ρ j)\/_<=hat ρ cs.length b.length (σ i);unfold hat
 split
 .exact .inl ⟨σ i,by assumption,rfl⟩
 .exact .inr Θ
theorem zt{c:CV}:rn (λi=>i) c=c:=by cases c<;>rfl
theorem Cf{o:CO}:rnO (λi=>i) o=o:=by
 have h1:∀l:η CV,l.map (rn λi=>i)=l:=λl=>by
  have:(rn λi=>i)=id:=funext λc=>zt
  rw[this,List.map_id]
 cases o<;>rwa[rnO,rnP,h1,zt]<;>simp
theorem At.same:At (λi=>i) cs cs:=⟨λ_ _ _ _ e=>e,λh=>by rw[Cf];exact h⟩
theorem Rn.here{F:Fd}{args:η CV}{d:Dt}(U:TrD F)(hc:Cl cs)(O:args.all (clV cs.length)=θ)(W:F args cs=ς (.g d,ds))(hl:cs.length<=ds.length)(Y:0<cs.length):Rn F args cs d ds:=.of U hc O W hl .same rfl Y
theorem Fr.at{n:Nat}(f:Fr ρ n b b')(h:At σ ds b)(U:∀i j,i<n->j<ds.length->ρ i≠σ j):At σ ds b':=⟨h.inj,λ{j o} O=>by have hl:=aj O;rw[f.kp _ (h.lt hl) λi hi=>U i j hi hl];exact h.get O⟩
theorem Sb.apart{n n':Nat}(s:Sb ρ n b ρ' n')(U:∀i j,i<n->j<m->ρ i≠σ j)(hl:∀j,j<m->σ j<b.length):∀i j,i<n'->j<m->ρ' i≠σ j:=λi j hi O e=>by
 rcases s i hi with ⟨k,W,h⟩|h
 .exact U k j W O (h.symm.trans e)
 .have:=hl j O;lia
end
variable{ds:η Dt}
section
variable{pt:Pt}{ft:FM Bool}{fe:Fg}{δ:Sl}{ch:CH}{α:Type}
theorem bz{f g:α->Dt}:∀{l:η α},(∀x∈l,∃O,bnd pt (f x) δ=ς O/\ft O ch=ς (θ,ch)/\fe O ch=ς (.g (g x),ch))->aF (bnd pt) ft fe δ (l.map f) ch=ς (l.map λx=>.g (g x),ch)
 |[],_=>rfl
 |x::l,h=>by
  have⟨O,h1,h2,U⟩:=h x Ξ;have W:=bz (l:=l) λy Y=>h y (by simp[Y])
  rwa[qa3,aF,h1,qa0,h2,if_true,U,CV.sol,W,qb2]
theorem bU{f g:α->Dt}{p:α->Bool}:∀{l:η α},(∀x∈l,∃O,bnd pt (f x) δ=ς O/\ft O ch=ς (p x,ch)/\(p x=θ->fe O ch=ς (.g (g x),ch)))->aF (bnd pt) ft fe δ (l.map f) ch=ς ((l.filter p).map λx=>.g (g x),ch)
 |[],_=>rfl
 |x::l,h=>by
  have⟨O,h1,h2,W⟩:=h x Ξ;have U:=bU (l:=l) λy Y=>h y (by simp[Y])
  cases hp:p x with
  |true=>rwa[qa3,aF,h1,qa0,h2,hp,if_true,W hp,CV.sol,U,qb2,List.filter_cons_of_pos hp]
  |false=>have:List.filter p (x::l)=List.filter p l:=List.filter_cons_of_neg (by simp[hp]);rwa[qa3,aF,h1,qa0,h2,hp,qg6,if_false,U,this]
theorem o7{f:α->Dt}{P:Dt->Prop}:∀{l:η α},(∀x∈l,∃O d,bnd pt (f x) δ=ς O/\ft O ch=ς (θ,ch)/\fe O ch=ς (.g d,ch)/\P d)->∃ds:η Dt,aF (bnd pt) ft fe δ (l.map f) ch=ς (ds.map .g,ch)/\(∀d∈ds,P d)/\ds.length=l.length
 |[],_=>⟨[],rfl,Ξ,rfl⟩
 |x::l,h=>by
  have⟨O,d,h1,h2,Y,hp⟩:=h x Ξ;have⟨ds,h4,W,U⟩:=o7 (l:=l) λy Z=>h y (by simp[Z])
  exact⟨d::ds,by rwa[qa3,aF,h1,qa0,h2,if_true,Y,CV.sol,h4,qb2],‹⟨hp,W⟩›,by simp[U]⟩
theorem de{β γ:Type}{f:α->Dt}{g:β->Dt}{h:β->γ}{h':α->γ}{Q:β->Prop}:∀{l:η α},(∀x∈l,∃O y,bnd pt (f x) δ=ς O/\ft O ch=ς (θ,ch)/\fe O ch=ς (.g (g y),ch)/\Q y/\h y=h' x)->∃ys:η β,aF (bnd pt) ft fe δ (l.map f) ch=ς ((ys.map g).map .g,ch)/\(∀y∈ys,Q y)/\ys.map h=l.map h'
 |[],_=>⟨[],rfl,Ξ,rfl⟩
 |x::l,U=>by
  have⟨O,y,h1,h2,h3,hq,Y⟩:=U x Ξ;have⟨ys,h4,Z,W⟩:=de (l:=l) λz hz=>U z (by simp[hz])
  exact⟨y::ys,by rwa[qa3,aF,h1,qa0,h2,if_true,h3,CV.sol,h4,qb2],λz hz=>by rcases qb9.mp hz with rfl|hz;exact hq;exact Z z hz,by simp[Y,W]⟩
theorem uM{m:Md}:finL m (ds.map .g) ch=fin m ch (.e ds):=by unfold finL;rw[bw]
theorem uN{g:α->Dt}{l:η α}:dats (l.map λx=>.g (g x))=ς (l.map g):=by
 have:(l.map λx=>CV.g (g x))=(l.map g).map .g:=by simp
 rw[this,bw]
theorem bO{m:Md}{g:α->Dt}{l:η α}:finL m (l.map λx=>.g (g x)) ch=fin m ch (.e (l.map g)):=by unfold finL;rw[uN]
end
variable{δ2 δ0:Sl}{fe:Fg}
section
variable{m:Md}{g:Dt->Dt->ζ T}{fa fb f:Fg}{δ δ':Sl}{ch ch1 ch2:CH}{x y c:CV}{dx dy:Dt}{t:T}{g1 g2:Fs}{o:Og}{i n:Nat}
theorem o8(O:fa δ ch=ς (x,ch1))(hb:fb δ ch1=ς (y,ch2))(Y:vw ch2 x=ς dx)(W:vw ch2 y=ς dy)(U:g dx dy=ς t):e2 m g fa fb δ ch=fin m ch2 t:=by unfold e2;rw[O,qa0,hb,qa0];dsimp only;rw[Y,qa0,W,qa0,U];rfl
theorem nK{a b:η Dt}(h:a.length+b.length<=qa5):oAdd.g (.e a) (.e b)=ς (.e (a++b)):=by show orO eM iA _ _=_;unfold orO eM;rwa[h,if_true]
theorem dX(h:f δ ch=ς (c,ch1))(O:c.kp=θ):i7 i f δ ch=ς (.nx (δ.set i (ς c)) ch1):=by unfold i7;rw[h,qa0];dsimp only;rw[if_pos O]
theorem jN(h:f δ ch=ς (c,ch1))(O:c.sol=θ):sRt f δ ch=ς (.rt c ch1):=by unfold sRt;rw[h,qa0];dsimp only;rw[if_pos O]
theorem av(h1:g1 δ ch=ς (.nx δ' ch1))(h2:g2 δ' ch1=ς o):aL g1 g2 δ ch=ς o:=by unfold aL;rw[h1];exact h2
theorem jO(h1:g1 δ ch=ς (.rt c ch1)):aL g1 g2 δ ch=ς (.rt c ch1):=by unfold aL;rw[h1];rfl
theorem dY{pt:Pt}{g:Fs}{d:Dt}{r:η Dt}(h1:bnd pt d δ=ς δ')(h2:g δ' ch=ς (.nx δ2 ch1)):cZ (bnd pt) g (d::r) δ ch=cZ (bnd pt) g r δ2 ch1:=by show(bnd pt d δ).bind _=_;rw[h1,qa0,h2];rfl
theorem cF{pt:Pt}{g:Fs}(h1:fi δ ch=ς (ds,ch1))(h2:cZ (bnd pt) g ds δ ch1=ς o):qA fi (bnd pt) g δ ch=ς o:=by unfold qA;rw[h1];exact h2
theorem rng1{j:Int}(h:eO j=θ):rng 1 [j]=ς (aG 0 j.toNat):=by rwa[rng,h,if_true]
theorem iR_i{fs:FM (η CV)}{j:Int}(h:fs δ ch=ς ([.g (.int j)],ch1))(hb:eO j=θ):iR 1 fs δ ch=ς (aG 0 j.toNat,ch1):=by unfold iR;rw[h];rwa[qa0,gj,qb2,rng1 hb]
theorem dH{fs:FM (η CV)}(h:fs δ ch=ς ([.g (.int j)],ch1))(hb:eO (j:Int)=θ):iR 1 fs δ ch=ς (aG 0 j,ch1):=by have e:=iR_i h hb;rw[qk3]at e;exact e
theorem Cg{g:Dt->η Dt->ζ T}{fs:FM (η CV)}{s:Str}{d:Dt}(hf:fa δ ch=ς (.g (.str s),ch))(hs:fs δ ch=ς ([.g d],ch))(O:g (.str s) [d]=ς t):eMt m g fa fs δ ch=fin m ch t:=by unfold eMt;rw[hf,qa0];dsimp only;rw[hs,qa0];show(g (.str s) [d]).bind _=_;rw[O];rfl
theorem dg(h:f δ ch=ς (c,ch1)):aCn f aNl δ ch=ς ([c],ch1):=by unfold aCn;rw[h];rfl
theorem dh{pt:Pt}{ft:FM Bool}{es:η Dt}(hi:fi δ ch=ς (ds,ch))(O:gC src δ=δ0)(h:aF (bnd pt) ft fe δ0 ds ch=ς (es.map .g,ch))(hl:es.length<=qa5):eCo .v src fi (bnd pt) ft fe δ ch=ς (.g (.e es),ch):=by unfold eCo;rw[hi,qa0,O];dsimp only;rw[h,qa0];dsimp only;rw[if_pos (by rw[qa2];exact hl)];unfold finL;rw[bw];rfl
theorem fX{g:Fs}(h:g (cs.map ς++qb0 (n-cs.length) ψ) ch=ς (.rt c ch1)):cP n g cs ch=ς (c,ch1):=by unfold cP;rw[h]
theorem nM{g:Fs}(h:g (cs.map ς++qb0 (n-cs.length) ψ) ch=ς (.nx δ' ch1)):cP n g cs ch=ς (.g .non,ch1):=by unfold cP;rw[h]
end
variable{cs1:CH}
section
variable{F:Fd}{ρ ρ1 ρ2:Nat->Nat}{cs b b1 b2:CH}{args:η CV}{d:Dt}{n n1 n2:Nat}
theorem At.pure(Z:TrD F)(h:At ρ cs b)(hc:Cl cs)(U:args.all (clV cs.length)=θ)(hr:F args cs=ς (.g d,cs)):F (rnA ρ args) b=ς (.g d,b):=by
 have⟨b',h1,E,K⟩:=h.go Z hc U hr;have Y:=E.nw 0;have W:hat ρ cs.length b.length (cs.length+0)=b.length+0:=by unfold hat;rw[if_neg Θ];lia
 rw[W]at Y
 have:b'=b:=by
  refine qk6 λj=>?_
  by_cases O:∃i,hat ρ cs.length b.length i=j
  .have⟨i,rfl⟩:=O;rcases qj9 i cs.length with hi|hi
   .rw[E.get (gQ hi),(h.em hc).get (gQ hi)]
   .have:hat ρ cs.length b.length i=b.length+(i-cs.length):=if_neg Θ;rw[this,qd6 Θ,qd6 Θ]
  .exact K j λi e=>O ⟨i,e⟩
 rw[this]at h1;exact h1
theorem Fr.trans(f:Fr ρ n b b1)(s:Sb ρ n b ρ1 n1)(g:Fr ρ1 n1 b1 b2):Fr ρ n b b2:=⟨qd7 f.le g.le,λj O hi=>by
 rw[g.kp j (qc7 O f.le) λi h e=>?_,f.kp j O hi];rcases s i h with ⟨k,U,q⟩|q
 .exact hi k U (q.symm.trans e)
 .lia⟩
theorem Sb.trans(f:Fr ρ n b b1)(s:Sb ρ n b ρ1 n1)(t:Sb ρ1 n1 b1 ρ2 n2):Sb ρ n b ρ2 n2:=λi hi=>by
 rcases t i hi with ⟨k,O,q⟩|q
 .rw[q];exact s k O
 .exact .inr (qd7 f.le q)
structure Mv(ρ:Nat->Nat)(cs b:CH)(ρ':Nat->Nat)(cs' b':CH):Prop where
 at_:At ρ' cs' b'
 zero:ρ' 0=ρ 0
 fr:Fr ρ cs.length b b'
 sb:Sb ρ cs.length b ρ' cs'.length
theorem Mv.trans{O:CH}(h:Mv ρ cs b ρ1 cs1 b1)(k:Mv ρ1 cs1 b1 ρ2 O b2):Mv ρ cs b ρ2 O b2:=⟨k.at_,k.zero.trans h.zero,h.fr.trans h.sb k.fr,h.sb.trans h.fr k.sb⟩
theorem Rn.mv(r:Rn F args cs d cs1)(h:At ρ cs b):∃ ρ' b',F (rnA ρ args) b=ς (.g d,b')/\Mv ρ cs b ρ' cs1 b':=let ⟨ρ',b',h1,h2,h3,h4,h5⟩:=r ρ b h;⟨ρ',b',h1,h2,h3,h4,h5⟩
end
section
variable{F:Fd}{ch a a':CH}{args:η CV}{x:CV}
theorem kX:Em (ch.length + ·) a (ch++a.map (rnO (ch.length + ·))):=by refine⟨λi j h=>Nat.add_left_cancel h,λ{i o} h=>?_,λk=>by simp;lia⟩;rw[gR Θ,qe9,qa9,h];rfl
theorem yc(E:Em (ch.length + ·) a' b')(K:Kp (ch.length + ·) (ch++a.map (rnO (ch.length + ·))) b'):b'=ch++a'.map (rnO (ch.length + ·)):=by
 have hl:ch.length+(a'.length+0)=b'.length+0:=E.nw 0;refine qk6 λj=>?_
 rcases qj9 j ch.length with O|O
 .rw[K j λi e=>by have e:ch.length+i=j:=e;lia,gL O,gL O]
 .have⟨i,rfl⟩:=Nat.exists_eq_add_of_le O;rw[gR Θ,qe9,qa9];rcases qj9 i a'.length with hi|hi
  .rw[gQ hi];exact E.get (gQ hi)
  .rw[qd6 hi,qd6 Θ];rfl
theorem TrD.tail(O:TrD F)(h:F args a=ς (x,a')):F (rnA (ch.length + ·) args) (ch++a.map (rnO (ch.length + ·)))=ς (rn (ch.length + ·) x,ch++a'.map (rnO (ch.length + ·))):=by have⟨b',h1,E,K⟩:=O kX h;rw[h1,yc E K]
theorem gH{c n:Nat}{fs:FM (η CV)}(U:TrD F)(hs:fs δ ch=ς (ds.map .g,ch))(W:n=ds.length+1)(h:F (.ref 0::ds.map .g) [.ins c []]=ς (.g .non,a'))(hl:0<a'.length):eMk c n F fs δ ch=ς (.ref ch.length,ch++a'.map (rnO (ch.length + ·))):=by
 have e:=U.tail (ch:=ch) h;have O:rnA (ch.length + ·) (.ref 0::ds.map .g)=.ref ch.length::ds.map .g:=by simp[rn,qb1]
 have e2:ch++[CO.ins c []].map (rnO (ch.length + ·))=ch++[.ins c []]:=rfl;rw[O,e2]at e;unfold eMk kCa;rw[hs,qa0];dsimp only;rw[if_pos ⟨by simp[W],by simp[CV.old]⟩,e,qa0];rwa[rn];rw[if_pos (by simp;lia)]
end
inductive An where
 |v (n:Nat) (x:CV×CH)|o (n:Nat) (x:Og)|t (n:Nat) (x:T)|c (n:Nat) (x:CV)|p (n:Nat) (x:CO)|d (n:Nat) (x:Dt)|h (n:Nat) (x:CO)
abbrev Qs:=η An×η Prop
def All:η Prop->Prop
 |[]=>True
 |p::l=>p/\All l
noncomputable def kK{α:Type}(f:An->ζ (Nat×α))(m:Nat->α->An)(v:ζ α):Qs->ζ (α×Qs)
 |(a::g,L)=>(match f a with
  |some (0,x)=>ς (x,g,(v=ς x)::L)
  |some (n+1,x)=>v.map λy=>(y,m n x::g,L)
  |none=>v.map λy=>(y,a::g,L))
 |s=>v.map λy=>(y,s)
theorem cb{α:Type}{f:An->ζ (Nat×α)}{m:Nat->α->An}{v:ζ α}{s s':Qs}{r:α}(h:kK f m v s=ς (r,s'))(a:All s'.2):v=ς r/\All s.2:=by
 obtain⟨_|⟨x,g⟩,L⟩:=s
 .have⟨y,h1,h2⟩:=mS h;cases h2;exact⟨h1,a⟩
 .unfold kK at h;dsimp only at h;split at h
  .cases h;exact a
  .have⟨y,h1,h2⟩:=mS h;cases h2;exact⟨h1,a⟩
  .have⟨y,h1,h2⟩:=mS h;cases h2;exact⟨h1,a⟩
abbrev kA:=kK (λa=>match a with|.v n x=>ς (n,x)|_=>ψ) An.v
abbrev kO:=kK (λa=>match a with|.o n x=>ς (n,x)|_=>ψ) An.o
abbrev kT:=kK (λa=>match a with|.t n x=>ς (n,x)|_=>ψ) An.t
abbrev kC:=kK (λa=>match a with|.c n x=>ς (n,x)|_=>ψ) An.c
abbrev kD:=kK (λa=>match a with|.d n x=>ς (n,x)|_=>ψ) An.d
abbrev kH:=kK (λa=>match a with|.h n x=>ς (n,x)|_=>ψ) An.h
abbrev kP:=kK (λa=>match a with|.p n x=>ς (n,x)|_=>ψ) An.p
abbrev QM(α:Type):=Sl->CH->Qs->ζ ((α×CH)×Qs)
def Snd{α:Type}(x:QM α)(f:FM α):Prop:=∀ δ ch s r s',x δ ch s=ς (r,s')->All s'.2->f δ ch=ς r/\All s.2
def Sns(x:Sl->CH->Qs->ζ (Og×Qs))(f:Fs):Prop:=∀ δ ch s r s',x δ ch s=ς (r,s')->All s'.2->f δ ch=ς r/\All s.2
noncomputable def qP{α:Type}(f:FM α):QM α:=λδ ch s=>(f δ ch).map λy=>(y,s)
def qW(f:Fg):QM CV:=λδ ch s=>kA (f δ ch) s
def qT(v:CH->ζ T)(m:Md):QM CV:=λ_ ch s=>(kT (v ch) s).bind λp=>(fin m ch p.1).map λy=>(y,p.2)
def qC(v:CH->ζ CV):QM CV:=λ_ ch s=>(kC (v ch) s).map λp=>((p.1,ch),p.2)
theorem Snd.to{α:Type}{x:QM α}{f g:FM α}(h:Snd x f)(e:f=g):Snd x g:=e▸h
theorem Snd.p{α:Type}{f:FM α}:Snd (qP f) f:=λ_ _ _ _ _ h a=>by have⟨y,h1,h2⟩:=mS h;cases h2;exact⟨h1,a⟩
theorem Snd.w{f:Fg}:Snd (qW f) f:=λ_ _ _ _ _ h a=>cb h a
theorem Snd.t{v:CH->ζ T}{m:Md}:Snd (qT v m) (λ_ ch=>(v ch).bind (fin m ch)):=λδ ch s r s' h a=>by have⟨p,h1,h⟩:=bS h;have⟨y,h2,h⟩:=mS h;cases h;have⟨O,U⟩:=cb h1 a;exact⟨by show(v ch).bind _=_;rw[O];exact h2,U⟩
theorem Snd.c{v:CH->ζ CV}:Snd (qC v) (λ_ ch=>(v ch).map λc=>(c,ch)):=λδ ch s r s' h a=>by have⟨p,h1,h⟩:=mS h;cases h;have⟨O,U⟩:=cb h1 a;exact⟨by show(v ch).map _=_;rw[O];rfl,U⟩
def qV{α:Type}(c:CV)(k:Dt->QM α):QM α:=λδ ch s=>(match c with
 |.ref i=>(kD (vw ch (.ref i)) s).bind λp=>k p.1 δ ch p.2
 |c=>(vw ch c).bind λd=>k d δ ch s)
theorem Snd.vw{α:Type}{c:CV}{k:Dt->QM α}{j:Dt->FM α}(h:∀d,Snd (k d) (j d)):Snd (qV c k) (λδ ch=>(vw ch c).bind λd=>j d δ ch):=λδ ch s r s' e a=>by
 unfold qV at e;split at e
 .have⟨d,h1,h2⟩:=bS e;have⟨O,U⟩:=h _ _ _ _ _ _ h2 a;have⟨W,Y⟩:=cb h1 U;exact⟨by show(L2.vw ch _).bind _=_;rw[W];exact O,Y⟩
 .have⟨d,h1,h2⟩:=bS e;have⟨O,U⟩:=h d _ _ _ _ _ h2 a;exact⟨by show(L2.vw ch _).bind _=_;rw[h1];exact O,U⟩
def qVs{α:Type}:η CV->(η Dt->QM α)->QM α
 |[],k=>k []
 |c::cs,k=>qV c λd=>qVs cs λds=>k (d::ds)
theorem Snd.vws{α:Type}:∀{cs:η CV}{k:η Dt->QM α}{j:η Dt->FM α},(∀d,Snd (k d) (j d))->Snd (qVs cs k) (λδ ch=>(vws ch cs).bind λd=>j d δ ch)
 |[],k,j,h=>(h []).to rfl
 | c::cs,k,j,h=>(Snd.vw (j:=λd=>_) λd=>Snd.vws (cs:=cs) (j:=λds=>j (d::ds)) λds=>h (d::ds)).to (by
     funext δ ch;show _=((L2.vw ch c).bind λd=>(L2.vws ch cs).map (d::·)).bind _;cases L2.vw ch c with
     |none=>rfl
     |some d=>cases L2.vws ch cs<;>rfl)
noncomputable def qB{α β:Type}(x:QM α)(k:α->QM β):QM β:=λδ ch s=>(x δ ch s).bind λp=>k p.1.1 δ p.1.2 p.2
theorem Snd.b{α β:Type}{x:QM α}{f:FM α}{k:α->QM β}{j:α->FM β}(h:Snd x f)(U:∀c,Snd (k c) (j c)):Snd (qB x k) (λδ ch=>(f δ ch).bind λp=>j p.1 δ p.2):=λδ ch s r s' e a=>by have⟨p,h1,h2⟩:=bS e;have⟨O,Z⟩:=U _ _ _ _ _ _ h2 a;have⟨W,Y⟩:=h _ _ _ _ _ h1 Z;exact⟨by show(f δ ch).bind _=_;rw[W];exact O,Y⟩
omit x in
theorem Snd.i{α:Type}{c:Prop}[Decidable c]{x:QM α}{f:FM α}(h:c->Snd x f):Snd (λδ ch s=>if c then x δ ch s else ψ) (λδ ch=>if c then f δ ch else ψ):=λδ ch s r s' e a=>by
 split at e
 .rename_i q;have⟨O,U⟩:=h q _ _ _ _ _ e a;exact⟨by show(if c then _ else _)=_;rw[if_pos q];exact O,U⟩
 .cases e
def caX(x:QM (η CV))(f:FM (η CV)):ζ EnBq->QM CV
 |some (.fn _ n F)=>qB x λcs=>λδ ch s=>if cs.length=n/\cs.all CV.old=θ then qW (λ_ ch=>F cs ch) δ ch s else ψ
 |o=>qW (caE f o)
def meX(x:QM CV)(f:Fg)(y:QM (η CV))(g:FM (η CV)):ζ EnBq->QM CV
 | some (.me c _ n F)=>qB x λx=>λδ ch s=>(match x with
     |.ref i=>(kH ch[i]? s).bind λp=>(match p.1 with
      |.ins O _=>if O=c then qB y (λcs=>λδ ch s=>if(CV.ref i::cs).length=n/\(CV.ref i::cs).all CV.old=θ then qW (λ_ ch=>F (.ref i::cs) ch) δ ch s else ψ) δ ch p.2 else ψ
      |_=>ψ)
     |_=>ψ)
 |o=>qW (meE f g o)
mutual
def xE(tb:Tb):E->QM CV
 |.b2 o m a b=>qB (xE tb a) λc=>qB (xE tb b) λd=>qV c λx=>qV d λy=>qT (λ_=>o.g x y) m
 |.cd t a b=>qB (xT tb t) λc=>if c then xE tb a else xE tb b
 |.bn o m as=>qB (xA tb as) λcs=>qVs cs λds=>qT (λ_=>o.g ds) m
 |.ii c a=>qB (xE tb a) λd=>qP λ_ ch=>(vw ch d).bind λd=>ς (.g (.bl (cX c d)),ch)
 |.gt a k e=>qB (xE tb a) λx=>λδ ch s=>if im ch x then qB (xE tb k) (λy=>qB (xE tb e) λz=>qV y λk=>λδ ch s=>if z.sol then qC (λch=>getV ch x k z) δ ch s else ψ) δ ch s else ψ
 |.an a b=>qB (xE tb a) λc=>λδ ch s=>(dO c).bind λw=>if w then xE tb b δ ch s else ς ((.g (.bl ξ),ch),s)
 |.ca j as=>caX (xA tb as) (evA tb as) tb.f[j]?
 |.me j o as=>meX (xE tb o) (evE tb o) (xA tb as) (evA tb as) tb.f[j]?
 |.at c f o=>qB (xE tb o) λx=>λδ ch s=>(match x with
  |.ref i=>(kH ch[i]? s).bind λp=>(match p.1 with
   |.ins c' l=>if c'=c then(l[f]?).map λx=>((x,ch),p.2)else ψ
   |_=>ψ)
  |_=>ψ)
 |.ix a b=>qB (xE tb a) λc=>qB (xE tb b) λd=>qV d λd=>qC λch=>ixV ch c d
 |.ls m as=>qB (xA tb as) λcs=>qP λ_ ch=>if cs.length<=qa5 then finL m cs ch else ψ
 |.tu as=>qB (xA tb as) λcs=>qP λ_ ch=>if cs.length<=qa5 then(match dats cs with
  |some ds=>ς (.g (.t ds),ch)
  |none=>if cs.all CV.sol then ς (.ref ch.length,ch++[.t cs])else ψ)else ψ
 |.k d=>qP (eK d)
 |.v i=>qP (eV i)
 |.g j=>qP (evE tb (.g j))
 |e=>qW (evE tb e)
def xT(tb:Tb):E->QM Bool
 |.tr (.b2 o m a b)=>qB (qB (xE tb a) λc=>qB (xE tb b) λd=>qV c λx=>qV d λy=>qT (λ_=>o.g x y) m) λc=>qP λ_ ch=>(dO c).map λb=>(b,ch)
 |.tr a=>qB (xE tb a) λc=>qP λ_ ch=>(vw ch c).bind λd=>(qo d).map λb=>(b,ch)
 |.tn a=>qB (xT tb a) λb=>qP λ_ ch=>ς (!b,ch)
 |.ta a b=>qB (xT tb a) λc=>if c then xT tb b else qP λ_ ch=>ς (ξ,ch)
 |.to a b=>qB (xT tb a) λc=>if c then qP (λ_ ch=>ς (θ,ch))else xT tb b
 |e=>qP (evT tb e)
def xA(tb:Tb):E->QM (η CV)
 |.nil=>qP aNl
 |.cons a as=>qB (xE tb a) λc=>qB (xA tb as) λcs=>qP λ_ ch=>ς (c::cs,ch)
 |e=>qP (evA tb e)
end
theorem Snd.f{α:Type}{x:QM Bool}{c:FM Bool}{y z:QM α}{f g:FM α}(h:Snd x c)(Z:Snd y f)(hz:Snd z g):Snd (qB x λb=>if b then y else z) (λδ ch=>(c δ ch).bind λp=>if p.1 then f δ p.2 else g δ p.2):=λδ ch s r s' e al=>by
 have⟨⟨⟨b,ch1⟩,s1⟩,h1,e⟩:=bS e;cases b with
 |true=>have⟨O,Y⟩:=Z _ _ _ _ _ e al;have⟨U,W⟩:=h _ _ _ _ _ h1 Y;exact⟨by show(c δ ch).bind _=_;rw[U];exact O,W⟩
 |false=>have⟨O,Y⟩:=hz _ _ _ _ _ e al;have⟨U,W⟩:=h _ _ _ _ _ h1 Y;exact⟨by show(c δ ch).bind _=_;rw[U];exact O,W⟩
theorem caX.ok{x:QM (η CV)}{f:FM (η CV)}(h:Snd x f)(o:ζ EnBq):Snd (caX x f o) (caE f o):=by
 cases o with
 |none=>exact .w
 |some q=>cases q<;>first|exact h.b (j:=λcs=>kCa _ _ cs) λcs=>.i λ_=>.w|exact .w
omit x in
theorem meX.ok{x:QM CV}{f:Fg}{y:QM (η CV)}{g:FM (η CV)}(W:Snd x f)(hy:Snd y g)(o:ζ EnBq):Snd (meX x f y g o) (meE f g o):=by
 cases o with
 |none=>exact .w
 |some q=>
  cases q<;>first|exact .w|skip
  rename_i c m n F;intro δ ch s r s' e al;have⟨⟨⟨x,ch1⟩,s1⟩,h1,e⟩:=bS e;dsimp only at e;split at e
  .rename_i i;have⟨⟨o1,s2⟩,g1,e⟩:=bS e;dsimp only at e;split at e
   .split at e
    .rename_i hc;have⟨Y,O⟩:=(hy.b (j:=λcs=>kCa n F (.ref i::cs)) λcs=>.i λ_=>.w) _ _ _ _ _ e al;have⟨g2,O⟩:=cb g1 O;have⟨U,Z⟩:=W _ _ _ _ _ h1 O;refine⟨?_,Z⟩;show eMe c n F f g δ ch=_;unfold eMe;rw[U,qa0];dsimp only;rw[g2];dsimp only;rw[if_pos hc];exact Y
    .cases e
   .cases e
  .cases e
omit x in
theorem eT(tb:Tb)(e:E):Snd (xE tb e) (evE tb e)/\Snd (xT tb e) (evT tb e)/\Snd (xA tb e) (evA tb e):=by
 induction e with
 |b2 o m a b O hb=>exact⟨(O.1).b (j:=λc=>_) λc=>(hb.1).b (j:=λd=>_) λd=>.vw (j:=λx=>_) λx=>.vw (j:=λy=>_) λy=>.t,.p,.p⟩
 |cd t a b ht O hb=>exact⟨ht.2.1.f O.1 hb.1,.p,.p⟩
 |bn o m as h=>exact⟨(h.2.2).b (j:=λcs=>kB m o.g cs) λcs=>.vws (j:=λds=>_) λds=>.t,.p,.p⟩
 |ii c a h=>exact⟨(h.1).b (j:=λc=>_) λc=>.p,.p,.p⟩
 |gt a k e O hk he=>
  refine⟨(O.1).b (j:=λx δ ch=>if im ch x then(evE tb k δ ch).bind λq=>(evE tb e δ q.2).bind λr=>(vw r.2 q.1).bind λk=>if r.1.sol then(getV r.2 x k r.1).map λc=>(c,r.2)else ψ else ψ) λx δ ch s r s' h al=>?_,.p,.p⟩;split at h
  .rename_i q;have⟨W,Z⟩:=((hk.1).b (j:=λy=>_) λy=>(he.1).b (j:=λz=>_) λz=>.vw (j:=λk=>_) λk=>.i λ_=>.c) _ _ _ _ _ h al;exact⟨by dsimp only;rw[if_pos q];exact W,Z⟩
  .cases h
 |an a b O hb=>
  refine⟨?_,.p,.p⟩;intro δ ch s r s' e al;have⟨⟨⟨c,ch1⟩,s1⟩,h1,e⟩:=bS e;have⟨w,h2,e⟩:=bS e;cases w with
  |true=>have⟨W,Z⟩:=hb.1 _ _ _ _ _ e al;have⟨U,Y⟩:=O.1 _ _ _ _ _ h1 Z;exact⟨by show(evE tb a δ ch).bind _=_;rw[U,qa0];show(dO c).bind _=_;rw[h2];exact W,Y⟩
  |false=>cases e;have⟨U,Y⟩:=O.1 _ _ _ _ _ h1 al;exact⟨by show(evE tb a δ ch).bind _=_;rw[U,qa0];show(dO c).bind _=_;rw[h2];rfl,Y⟩
 |ca j as h=>exact⟨caX.ok h.2.2 _,.p,.p⟩
 |me j o as ho h=>exact⟨meX.ok ho.1 h.2.2 _,.p,.p⟩
 |«at» c f o h=>
  refine⟨?_,.p,.p⟩;intro δ ch s r s' e al;have⟨⟨⟨x,ch1⟩,s1⟩,h1,e⟩:=bS e;dsimp only at e;split at e
  .have⟨⟨o1,s2⟩,g1,e⟩:=bS e;dsimp only at e;split at e
   .split at e
    .rename_i hc;have⟨y,g2,e⟩:=mS e;cases e;have⟨g3,g4⟩:=cb g1 al;have⟨U,Y⟩:=h.1 _ _ _ _ _ h1 g4;refine⟨?_,Y⟩;show(evE tb o δ ch).bind _=_;rw[U,qa0];dsimp only;rw[g3];dsimp only;rw[if_pos hc,g2];rfl
    .cases e
   .cases e
  .cases e
 |ix a b O hb=>exact⟨(O.1).b (j:=λc=>_) λc=>(hb.1).b (j:=λd=>_) λd=>.vw (j:=λd=>_) λd=>.c,.p,.p⟩
 |ls m as h=>exact⟨(h.2.2).b (j:=λcs=>_) λcs=>.p,.p,.p⟩
 |tu as h=>exact⟨(h.2.2).b (j:=λcs=>_) λcs=>.p,.p,.p⟩
 |tr a h=>refine⟨.w,?_,.p⟩;cases a<;>first|exact(h.1).b (j:=λc _ ch=>(vw ch c).bind λd=>(qo d).map λb=>(b,ch)) λc=>.p|exact(h.1).b (j:=λc _ ch=>(dO c).map λb=>(b,ch)) λc=>.p
 |tn a h=>exact⟨.w,λδ ch s r s' e al=>by have⟨p,h1,h2⟩:=bS e;cases h2;have⟨W,Z⟩:=h.2.1 _ _ _ _ _ h1 al;exact⟨by show(evT tb a δ ch).map _=_;rw[W];rfl,Z⟩,.p⟩
 |ta a b O hb=>exact⟨.w,O.2.1.f hb.2.1 .p,.p⟩
 |to a b O hb=>exact⟨.w,O.2.1.f .p hb.2.1,.p⟩
 |nil=>exact⟨.w,.p,.p⟩
 |cons a as O h=>exact⟨.w,.p,λδ ch s r s' e al=>by have⟨p,h1,e⟩:=bS e;have⟨q,h2,e⟩:=bS e;cases e;have⟨W,Z⟩:=h.2.2 _ _ _ _ _ h2 al;have⟨U,Y⟩:=O.1 _ _ _ _ _ h1 Z;exact⟨by show(evE tb a δ ch).bind _=_;rw[U,qa0,W];rfl,Y⟩⟩
 |k d=>exact⟨.p,.p,.p⟩
 |v i=>exact⟨.p,.p,.p⟩
 |g j=>exact⟨.p,.p,.p⟩
 |_=>exact⟨.w,.p,.p⟩
noncomputable def sB(x y:Sl->CH->Qs->ζ (Og×Qs)):Sl->CH->Qs->ζ (Og×Qs):=λδ ch s=>(x δ ch s).bind λp=>match p.1 with
 |.nx δ' ch'=>y δ' ch' p.2
 |o=>ς (o,p.2)
noncomputable def sA{α:Type}(x:QM α)(k:α->Sl->CH->ζ Og):Sl->CH->Qs->ζ (Og×Qs):=λδ ch s=>(x δ ch s).bind λp=>(k p.1.1 δ p.1.2).map λo=>(o,p.2)
def sK{α:Type}(x:QM α)(k:α->Sl->CH->ζ Og):Sl->CH->Qs->ζ (Og×Qs):=λδ ch s=>(x δ ch s).bind λp=>kO (k p.1.1 δ p.1.2) p.2
def qqBq(x y:QM CV):QM (CV×CV):=qB x λc=>qB y λd=>qP λ_ ch=>ς ((c,d),ch)
def apO(l:η CV)(c:CV):ζ CO:=if l.length<qa5/\c.sol=θ then ς (.e (l++[c]))else ψ
def isL:CO->ζ (η CV)
 |.e l=>ς l
 |_=>ψ
theorem uO{i:Nat}{o:CO}{l:η CV}(h:ch[i]?=ς o)(k:isL o=ς l):bY ch i=ς l:=by unfold bY;rw[h];cases o<;>first|(cases k;done)|exact k
def xS(tb:Tb):S->Sl->CH->Qs->ζ (Og×Qs)
 |.nil=>λδ ch s=>ς (.nx δ ch,s)
 |.sq a b=>sB (xS tb a) (xS tb b)
 |.set i e=>sA (xE tb e) λc δ ch=>if c.kp then ς (.nx (δ.set i (ς c)) ch)else ψ
 |.rt e=>sA (xE tb e) λc _ ch=>if c.sol then ς (.rt c ch)else ψ
 |.rn=>λ_ ch s=>ς (.rt (.g .non) ch,s)
 |.dr e=>sA (xE tb e) λ_ δ ch=>ς (.nx δ ch)
 |.cd c a b=>λδ ch s=>(xT tb c δ ch s).bind λp=>if p.1.1 then xS tb a δ p.1.2 p.2 else xS tb b δ p.1.2 p.2
 |.fl c f o e=>sA (qqBq (xE tb e) (xE tb o)) λp δ ch=>(match p.2 with
  |.ref i=>((ch[i]?).bind λo=>cO c f o p.1).map λo'=>.nx δ (ch.set i o')
  |_=>ψ)
 |.put a k e=>λδ ch s=>(qB (xE tb e) (λv=>qB (xE tb a) λo=>qB (xE tb k) λw=>qP λ_ ch=>ς ((v,o,w),ch)) δ ch s).bind λq=>(match q.1.1.2.1 with
  |.ref i=>if q.1.1.1.sol then(vw q.1.2 q.1.1.2.2).bind λd=>(kH q.1.2[i]? q.2).bind λo=>(kP (ip o.1 d q.1.1.1) o.2).map λr=>(.nx δ (q.1.2.set i r.1),r.2)else ψ
  |_=>ψ)
 |.ap a e=>λδ ch s=>(xE tb a δ ch s).bind λp=>(xE tb e δ p.1.2 p.2).bind λq=>(match p.1.1 with
  |.ref i=>(kH p.1.2[i]? q.2).bind λo=>(kH q.1.2[i]? o.2).bind λO=>(isL o.1).bind λ_=>(isL O.1).bind λl=>(kP (apO l q.1.1) O.2).map λr=>(.nx δ (q.1.2.set i r.1),r.2)
  |_=>ψ)
 |.aps i e=>sK (xE tb e) λc δ ch=>sAs i (λ_ ch=>ς (c,ch)) δ ch
 |s=>λδ ch q=>kO (evS tb s δ ch) q
omit x in
theorem uP(tb:Tb)(s:S):Sns (xS tb s) (evS tb s):=by
 induction s with
 |nil=>intro δ ch s r s' e al;cases e;exact⟨rfl,al⟩
 |sq a b ha hb=>
  intro δ ch s r s' e al;have⟨⟨o,s1⟩,h1,e⟩:=bS e;cases o with
  |nx δ1 ch1=>have⟨W,Y⟩:=hb _ _ _ _ _ e al;have⟨O,U⟩:=ha _ _ _ _ _ h1 Y;exact⟨by show(evS tb a δ ch).bind _=_;rw[O];exact W,U⟩
  |_=>cases e;have⟨O,U⟩:=ha _ _ _ _ _ h1 al;exact⟨by show(evS tb a δ ch).bind _=_;rw[O];rfl,U⟩
 |set i e=>intro δ ch s r s' h al;have⟨p,h1,h⟩:=bS h;have⟨o,h2,h⟩:=mS h;cases h;have⟨O,U⟩:=(eT tb e).1 _ _ _ _ _ h1 al;exact⟨by show(evE tb e δ ch).bind _=_;rw[O];exact h2,U⟩
 |rt e=>intro δ ch s r s' h al;have⟨p,h1,h⟩:=bS h;have⟨o,h2,h⟩:=mS h;cases h;have⟨O,U⟩:=(eT tb e).1 _ _ _ _ _ h1 al;exact⟨by show(evE tb e δ ch).bind _=_;rw[O];exact h2,U⟩
 |rn=>intro δ ch s r s' e al;cases e;exact⟨rfl,al⟩
 |dr e=>intro δ ch s r s' h al;have⟨p,h1,h⟩:=bS h;cases h;have⟨O,U⟩:=(eT tb e).1 _ _ _ _ _ h1 al;exact⟨by show(evE tb e δ ch).map _=_;rw[O];rfl,U⟩
 |cd c a b ha hb=>
  intro δ ch s r s' e al;have⟨⟨⟨w,ch1⟩,s1⟩,h1,e⟩:=bS e;cases w with
  |true=>have⟨W,Y⟩:=ha _ _ _ _ _ e al;have⟨O,U⟩:=(eT tb c).2.1 _ _ _ _ _ h1 Y;exact⟨by show(evT tb c δ ch).bind _=_;rw[O];exact W,U⟩
  |false=>have⟨W,Y⟩:=hb _ _ _ _ _ e al;have⟨O,U⟩:=(eT tb c).2.1 _ _ _ _ _ h1 Y;exact⟨by show(evT tb c δ ch).bind _=_;rw[O];exact W,U⟩
 |fl c f o e=>intro δ ch s r s' h al;have⟨p,h1,h⟩:=bS h;have⟨w,h2,h⟩:=mS h;cases h;have⟨q1,k1,h1⟩:=bS h1;have⟨q2,k2,h1⟩:=bS h1;cases h1;have⟨W,Y⟩:=(eT tb o).1 _ _ _ _ _ k2 al;have⟨O,U⟩:=(eT tb e).1 _ _ _ _ _ k1 Y;exact⟨by show(evE tb e δ ch).bind _=_;rw[O,qa0,W];exact h2,U⟩
 |put a k e=>
  intro δ ch s r s' h al;have⟨_,h1,h⟩:=bS h;have⟨⟨⟨v,c1⟩,s1⟩,k1,h1⟩:=bS h1;have⟨⟨⟨o,c2⟩,s2⟩,k2,h1⟩:=bS h1;have⟨⟨⟨w,c3⟩,s3⟩,k3,h1⟩:=bS h1;cases h1;dsimp only at h;split at h
  .rename_i i;split at h
   .rename_i hs;have⟨d,g1,h⟩:=bS h;have⟨c,g2,h⟩:=bS h;have⟨c',g3,h⟩:=mS h;cases h;have⟨Z,al⟩:=cb g3 al;have⟨g2,al⟩:=cb g2 al;have⟨i5,i6⟩:=(eT tb k).1 _ _ _ _ _ k3 al;have⟨W,Y⟩:=(eT tb a).1 _ _ _ _ _ k2 i6;have⟨O,U⟩:=(eT tb e).1 _ _ _ _ _ k1 Y;refine⟨?_,U⟩;show(evE tb e δ ch).bind _=_;rw[O,qa0,W,qa0,i5,qa0];dsimp only;rw[if_pos hs,g1,qa0,g2,qa0,Z];rfl
   .cases h
  .cases h
 |ap a e=>
  intro δ ch s r s' h al;have⟨⟨⟨v,ch1⟩,s1⟩,h1,h⟩:=bS h;have⟨⟨⟨w,ch2⟩,s2⟩,h2,h⟩:=bS h;dsimp only at h;split at h
  .have⟨⟨o1,s3⟩,f1,h⟩:=bS h;have⟨⟨o2,s4⟩,f2,h⟩:=bS h;have⟨_,g1,h⟩:=bS h;have⟨l,g2,h⟩:=bS h;have⟨c',g3,h⟩:=mS h;cases h;have⟨Z,al⟩:=cb g3 al;have⟨f3,al⟩:=cb f2 al;have⟨f4,al⟩:=cb f1 al
   replace g1:=uO f4 g1
   replace g2:=uO f3 g2
   have⟨W,Y⟩:=(eT tb e).1 _ _ _ _ _ h2 al;have⟨O,U⟩:=(eT tb a).1 _ _ _ _ _ h1 Y;refine⟨?_,U⟩;show(evE tb a δ ch).bind _=_;rw[O,qa0,W,qa0];dsimp only;rw[g1,qa0,g2,qa0];unfold apO at Z;split at Z
   .rename_i hc;rw[if_pos hc,qd5 Z]
   .cases Z
  .cases h
 |aps i e=>intro δ ch s r s' h al;have⟨p,h1,h⟩:=bS h;have⟨h2,al⟩:=cb h al;have⟨O,U⟩:=(eT tb e).1 _ _ _ _ _ h1 al;exact⟨by show(evE tb e δ ch).bind _=_;rw[O];exact h2,U⟩
 |_=>exact λδ ch s r s' h al=>cb h al
inductive Oa:List An->List Prop->Prop
 |nil:Oa [] []
 |v (n:Nat) {w:Option (CV×CH)} {x:CV×CH} {g:List An} {L:List Prop} (h:w=ς x) (t:Oa g L):Oa (.v n x::g) ((w=ς x)::L)
 |o (n:Nat) {w:Option Og} {x:Og} {g:List An} {L:List Prop} (h:w=ς x) (t:Oa g L):Oa (.o n x::g) ((w=ς x)::L)
 |t (n:Nat) {w:Option T} {x:T} {g:List An} {L:List Prop} (h:w=ς x) (t:Oa g L):Oa (.t n x::g) ((w=ς x)::L)
 |c (n:Nat) {w:Option CV} {x:CV} {g:List An} {L:List Prop} (h:w=ς x) (t:Oa g L):Oa (.c n x::g) ((w=ς x)::L)
 |h (n:Nat) {w:Option CO} {x:CO} {g:List An} {L:List Prop} (h:w=ς x) (t:Oa g L):Oa (.h n x::g) ((w=ς x)::L)
 |d (n:Nat) {w:Option Dt} {x:Dt} {g:List An} {L:List Prop} (h:w=ς x) (t:Oa g L):Oa (.d n x::g) ((w=ς x)::L)
 |p (n:Nat) {w:Option CO} {x:CO} {g:List An} {L:List Prop} (h:w=ς x) (t:Oa g L):Oa (.p n x::g) ((w=ς x)::L)
theorem Oa.all{g:η An}{L:η Prop}(h:Oa g L):All L:=by
 induction h with
 |nil=>trivial
 |v _ h _ O|o _ h _ O|t _ h _ O|c _ h _ O|p _ h _ O|d _ h _ O|h _ h _ O=>exact⟨h,O⟩
theorem kY{L M:η Prop}(h:All L)(k:All M):All (L.reverseAux M):=by
 induction L generalizing M with
 |nil=>exact k
 |cons p l O=>exact O h.2 ⟨h.1,k⟩
def xF(gc:η (Str×Dt))(g:η An):η Df->η CV->CH->ζ ((CV×CH)×η Prop)
 |[],_,_=>ψ
 |d::r,cs,ch=>match xS (ay gc r) d.b (cs.map ς++qb0 (d.m-cs.length) ψ) ch (g,[])with
  |some (.rt c ch',[],L)=>ς ((c,ch'),L)
  |some (.nx _ ch',[],L)=>ς ((.g .non,ch'),L)
  |_=>ψ
omit x in
theorem ED{gc:η (Str×Dt)}{ds:η Df}{g:η An}{L:η Prop}{r:CV×CH}(a:Oa g L)(h:xF gc g ds cs ch=ς (r,L.reverse)):FF gc ds cs ch=ς r:=by
 cases ds with
 |nil=>cases h
 |cons d ds=>
  have al:All L.reverse:=kY a.all trivial;show cP _ _ _ _=_;unfold cP
  replace h:(match xS (ay gc ds) d.b (cs.map ς++qb0 (d.m-cs.length) ψ) ch (g,[])with|some (.rt c ch',[],L)=>ς ((c,ch'),L)|some (.nx _ ch',[],L)=>ς ((CV.g .non,ch'),L)|_=>ψ)=ς (r,L.reverse):=h
  split at h
  .rename_i q;cases h;rw[((uP _ _) _ _ _ _ _ q al).1]
  .rename_i q;cases h;rw[((uP _ _) _ _ _ _ _ q al).1]
  .cases h
theorem xR{gc:η (Str×Dt)}{ds:η Df}{g:η An}{L:η Prop}{r:CV×CH}(a:Oa g L)(h:xF gc g ds cs ch=ς (r,L.reverse):=by kernel_rfl):FF gc ds cs ch=ς r:=ED a h
theorem xRs{s:S}{g:η An}{L:η Prop}{o:Og}(a:Oa g L)(h:xS tb s δ ch (g,[])=ς (o,([],L.reverse)):=by kernel_rfl):evS tb s δ ch=ς o:=(uP tb s _ _ _ _ _ h (kY a.all trivial)).1
noncomputable def foB:S->S
 |.sq (.fo _ _ b) _=>b
 |.sq (.wh _ _ b) _=>b
 |.sq _ b=>foB b
 |_=>.nil
theorem vl{i:Nat}{L:η Dt}(h:ch[i]?=ς (.e (L.map .g))):vw ch (.ref i)=ς (.e L):=by show(ch[i]?).bind vwO=_;rw[h];show(dats (L.map .g)).map Dt.e=_;rw[bw];rfl
theorem ofS{a b:String}:(qd0 a=qd0 b)=(a=b):=by refine propext ⟨λh=>?_,λh=>h▸rfl⟩;rw[za7,za7]at h;exact String.toList_inj.mp ((List.map_inj_right λ_ _=>Char.toNat_inj.mp).mp (congrArg (·.cps.toList) h))
structure Fx where
 rows:List Dt
 onw:List Dt
 sk:List Key
 sv:List Dt
 tw:List Dt
 kk:List Key
 kv:List Dt
 inc:List Dt
structure HS where
 x:Fx
 plan:List Dt
 h0:List Dt
 h1:List Dt
 pb0:List Dt
 pb1:List Dt
 pt0:List Dt
 pt1:List Dt
 cnt:Int
 res:Dt
 fst:List (Key×Dt)
 unl:Bool
 dust:Int
noncomputable abbrev dl(l:η Dt):CO:=.e (l.map .g)
noncomputable def dp{κ:Type}(l:η (κ×Dt)):η (κ×CV):=l.map λp=>(p.1,.g p.2)
theorem di{κ:Type}{l:η (κ×Dt)}:(dp l).map (·.1)=l.map (·.1):=by simp[dp,qb1]
theorem dA{κ:Type}{l:η (κ×Dt)}:dats ((dp l).map (·.2))=ς (l.map (·.2)):=by
 have e:(dp l).map (·.2)=(l.map (·.2)).map .g:=by simp[dp,qb1]
 rw[e,bw]
theorem nN{κ:Type}{l:η (κ×Dt)}:((dp l).map (·.1)).zip (l.map (·.2))=l:=by
 rw[di];induction l with
 |nil=>rfl
 |cons p l O=>rwa[qa3,qn9,O]
theorem uQ{κ:Type}{l:η (κ×Dt)}:(dp l).length=l.length:=by simp[dp]
noncomputable abbrev I(i:Int):CV:=.g (.int i)
def hO(S:HS)(lv O:CV):CO:=.ins 3 [.g (.t S.x.rows),.g (.e S.x.onw),.g (.dct S.x.sk S.x.sv),.g (.e S.x.tw),.g (.dct S.x.kk S.x.kv),.g (.e S.x.inc),.ref 1,.ref 2,I S.dust,lv,O]
def hb(S:HS)(lv:CV)(rf:η (Key×CV))(tl:CH):CH:=hO S lv (.ref 3)::.ins 2 [.ref 4,.ref 5,.ref 6,.ref 7,I S.cnt,.g S.res]::.ins 0 [.ref 8,.g (.bl S.unl)]::dl S.plan::.dK rf::.e [.g (.t S.h0),.g (.t S.h1)]::.e [.ref 9,.ref 10]::.e [.ref 11,.ref 12]::.dK (dp S.fst)::dl S.pb0::dl S.pb1::dl S.pt0::dl S.pt1::tl
section
variable{S:HS}{lv:CV}{rf:η (Key×CV)}{tl:CH}
theorem Ch:(hb S lv rf tl)[0]?=ς (.ins 3 [.g (.t S.x.rows),.g (.e S.x.onw),.g (.dct S.x.sk S.x.sv),.g (.e S.x.tw),.g (.dct S.x.kk S.x.kv),.g (.e S.x.inc),.ref 1,.ref 2,I S.dust,lv,.ref 3]):=rfl
theorem hb_1:(hb S lv rf tl)[1]?=ς (.ins 2 [.ref 4,.ref 5,.ref 6,.ref 7,I S.cnt,.g S.res]):=rfl
theorem hb_2:(hb S lv rf tl)[2]?=ς (.ins 0 [.ref 8,.g (.bl S.unl)]):=rfl
theorem hb_3:(hb S lv rf tl)[3]?=ς (.e (S.plan.map .g)):=rfl
theorem hb_4:(hb S lv rf tl)[4]?=ς (.dK rf):=rfl
theorem hb_5:(hb S lv rf tl)[5]?=ς (.e [.g (.t S.h0),.g (.t S.h1)]):=rfl
theorem hb_6:(hb S lv rf tl)[6]?=ς (.e [.ref 9,.ref 10]):=rfl
theorem hb_7:(hb S lv rf tl)[7]?=ς (.e [.ref 11,.ref 12]):=rfl
theorem hb_8:(hb S lv rf tl)[8]?=ς (.dK (dp S.fst)):=rfl
theorem hb_9:(hb S lv rf tl)[9]?=ς (.e (S.pb0.map .g)):=rfl
theorem EE:(hb S lv rf tl)[10]?=ς (.e (S.pb1.map .g)):=rfl
theorem EF:(hb S lv rf tl)[11]?=ς (.e (S.pt0.map .g)):=rfl
theorem EG:(hb S lv rf tl)[12]?=ς (.e (S.pt1.map .g)):=rfl
theorem Ci{k:Nat}:(hb S lv rf tl)[k+13]?=tl[k]?:=rfl
end
local macro_rules|`(tactic|simp! only[$x,*]$(l)?)=>do
 let a:=mL0 "cP aL dQ sRt sRn sIf i7 sDr sFl sFa sAu sPt sAp sCl e2 eIx eAt eV eK eTu eLs eB kB eCa kCa eMe eIf eIs eGt eIl iZ gm tNt tAn tG aCn aNl"
 `(tactic|simp only[$a,*,$x,*]$(l)?)
local macro_rules|`(tactic|simp![$x,*]$(l)?)=>do
 let a:=mL0 ("ixD bW gIx atI ixN "++mD0)
 `(tactic|simp[PySem.sizeLine_eq,$a,*,$x,*]$(l)?)
local macro_rules|`(tactic|dsimp![$x,*]$(l)?)=>do
 let a:=mL0 mD0
 `(tactic|simp[PySem.sizeLine_eq,$a,*,$x,*]$(l)?)
section
variable{S:HS}{lv:CV}{rf:η (Key×CV)}{tl:CH}
theorem ans2_at:F24 [.ref 0] (hb S lv rf tl)=ς (.g S.res,hb S lv rf tl):=rfl
theorem uR:F20 [.ref 0] (hb S lv rf tl)=ς (I S.cnt,hb S lv rf tl):=rfl
theorem four{h:η Dt}(e:h.length=4):∃a b c d,h=[a,b,c,d]:=by
 match h,e with
 |[a,b,c,d],_=>exact⟨a,b,c,d,rfl⟩
theorem tup4{h:η Dt}(e:h.length=4){x y:Dt}:oAdd.g (.t h) (.t [x,y])=ς (.f (.t (h++[x,y]))):=by have⟨a,b,c,d,rfl⟩:=four e;kernel_rfl
theorem Cj(h:S.h0.length=4):F17 [.ref 1,I 0] (hb S lv rf tl)=ς (.g (.t (S.h0++[.e S.pb0,.e S.pt0])),hb S lv rf tl):=xR (.d 0 (vl (ch:=hb S lv rf tl) (i:=9) (L:=S.pb0) rfl) (.d 0 (vl (ch:=hb S lv rf tl) (i:=11) (L:=S.pt0) rfl) (.t 1 (tup4 h (x:=.e S.pb0) (y:=.e S.pt0)) .nil)))
theorem Ck(h:S.h1.length=4):F17 [.ref 1,I 1] (hb S lv rf tl)=ς (.g (.t (S.h1++[.e S.pb1,.e S.pt1])),hb S lv rf tl):=xR (.d 0 (vl (ch:=hb S lv rf tl) (i:=10) (L:=S.pb1) rfl) (.d 0 (vl (ch:=hb S lv rf tl) (i:=12) (L:=S.pt1) rfl) (.t 1 (tup4 h (x:=.e S.pb1) (y:=.e S.pt1)) .nil)))
noncomputable def pgD(S:HS):η Dt:=if S.cnt=0 then S.h0++[.e S.pb0,.e S.pt0]else S.h1++[.e S.pb1,.e S.pt1]
theorem o9(O:S.h0.length=4)(h1:S.h1.length=4)(hc:S.cnt=0\/S.cnt=1):F18 [.ref 0,I S.cnt] (hb S lv rf tl)=ς (.g (.t (pgD S)),hb S lv rf tl):=by
 unfold pgD;rcases hc with hc|hc
 .rw[hc,if_pos rfl];exact xR (.v 0 (Cj (lv:=lv) (rf:=rf) (tl:=tl) O) .nil)
 .rw[hc,if_neg Ω];exact xR (.v 0 (Ck (lv:=lv) (rf:=rf) (tl:=tl) h1) .nil)
theorem gJ(h:S.res=.non):F25 [.ref 0] (hb S lv rf tl)=ς (.g (.bl ξ),hb S lv rf tl):=xR (.v 0 (w:=F24 [.ref 0] (hb S lv rf tl)) (ans2_at.trans (by rw[h])) .nil)
theorem kZ{i:Int}(h:S.res=.int i):F25 [.ref 0] (hb S lv rf tl)=ς (.g (.bl θ),hb S lv rf tl):=xR (.v 0 (w:=F24 [.ref 0] (hb S lv rf tl)) (ans2_at.trans (by rw[h])) .nil)
theorem other_at:F29 [.ref 1] (hb S lv rf tl)=ς (I (1-S.cnt),hb S lv rf tl):=rfl
theorem yd{v:Dt}:F36 [.ref 1,.g v] (hb S lv rf tl)=ς (.g .non,hb {S with res:=v} lv rf tl):=rfl
theorem Cm{n:Str}{k p:Nat}{v:Dt}(h1:lkC rf (.inr n)=ς (.ref (k+13)))(h2:tl[k]?=ς (dl l))(hp:p<l.length):F28 [.ref 1,.g (.str n),I p,.g v] (hb S lv rf tl)=ς (.g .non,hb S lv rf (tl.set k (dl (l.set p v)))):=by
 have e:ixN l.length (p:Int)=ς p:=by unfold ixN;simp;lia
 simp! only[q28];simp[lent,vw,ixV,ixO,asI,ip,cN,CV.sol,Ch,hb_1,hb_2,hb_3,hb_4,hb_5,hb_6,hb_7,hb_8,hb_9,EE,EF,EG,Ci,h1,h2,e];rw[<- qr3];rfl
theorem iF{d:Dt}(hl:l.length<qa5):apO (l.map .g) (.g d)=ς (dl (l++[d])):=by unfold apO;rw[if_pos ⟨by rw[qa2];exact hl,rfl⟩,dl,qd3];rfl
theorem Co(hc:S.cnt=1){n v:Dt}(hl:S.pb0.length<qa5):F31 [.ref 1,.g n,.g v] (hb S lv rf tl)=ς (.g .non,hb {S with pb0:=S.pb0++[.t [n,v]]} lv rf tl):=xR (.v 0 (w:=F29 [.ref 1] (hb S lv rf tl)) (x:=(I 0,hb S lv rf tl)) (other_at.trans (by rw[hc];rfl)) (.p 0 (iF (d:=.t [n,v]) hl) .nil))
theorem Cp(hc:S.cnt=0){n v:Dt}(hl:S.pb1.length<qa5):F31 [.ref 1,.g n,.g v] (hb S lv rf tl)=ς (.g .non,hb {S with pb1:=S.pb1++[.t [n,v]]} lv rf tl):=xR (.v 0 (w:=F29 [.ref 1] (hb S lv rf tl)) (x:=(I 1,hb S lv rf tl)) (other_at.trans (by rw[hc];rfl)) (.p 0 (iF (d:=.t [n,v]) hl) .nil))
theorem Cq(hc:S.cnt=1){n p v:Dt}(hl:S.pt0.length<qa5):F32 [.ref 1,.g n,.g p,.g v] (hb S lv rf tl)=ς (.g .non,hb {S with pt0:=S.pt0++[.t [.t [n,p],v]]} lv rf tl):=xR (.v 0 (w:=F29 [.ref 1] (hb S lv rf tl)) (x:=(I 0,hb S lv rf tl)) (other_at.trans (by rw[hc];rfl)) (.p 0 (iF (d:=.t [.t [n,p],v]) hl) .nil))
theorem Cr(hc:S.cnt=0){n p v:Dt}(hl:S.pt1.length<qa5):F32 [.ref 1,.g n,.g p,.g v] (hb S lv rf tl)=ς (.g .non,hb {S with pt1:=S.pt1++[.t [.t [n,p],v]]} lv rf tl):=xR (.v 0 (w:=F29 [.ref 1] (hb S lv rf tl)) (x:=(I 1,hb S lv rf tl)) (other_at.trans (by rw[hc];rfl)) (.p 0 (iF (d:=.t [.t [n,p],v]) hl) .nil))
def hbN(S:HS)(lv:CV)(rf:η (Key×CV))(O b1 t0 t1:Nat)(tl:CH):CH:=hO S lv (.ref 3)::.ins 2 [.ref 4,.ref 5,.ref 6,.ref 7,I S.cnt,.g S.res]::.ins 0 [.ref 8,.g (.bl S.unl)]::dl S.plan::.dK rf::.e [.g (.t S.h0),.g (.t S.h1)]::.e [.ref O,.ref b1]::.e [.ref t0,.ref t1]::.dK (dp S.fst)::dl S.pb0::dl S.pb1::dl S.pt0::dl S.pt1::tl
theorem ye(hc:S.cnt=1){a b c d:Dt}:F30 [.ref 1,.g a,.g b,.g c,.g d] (hb S lv rf tl)=ς (.g .non,hbN {S with h0:=[a,b,c,d]} lv rf (tl.length+13) 10 (tl.length+1+13) 12 (tl++[.e []]++[.e []])):=by
 have⟨x,pl,h0,h1,p0,O,q0,q1,ct,W,fs,un,U⟩:=S;cases hc;have e:(tl++[CO.e []]).length=tl.length+1:=by simp
 rw[<- e];rfl
theorem yf(hc:S.cnt=0){a b c d:Dt}:F30 [.ref 1,.g a,.g b,.g c,.g d] (hb S lv rf tl)=ς (.g .non,hbN {S with h1:=[a,b,c,d]} lv rf 9 (tl.length+13) 11 (tl.length+1+13) (tl++[.e []]++[.e []])):=by
 have⟨x,pl,O,h1,p0,U,q0,q1,ct,Y,fs,un,W⟩:=S;cases hc;have e:(tl++[CO.e []]).length=tl.length+1:=by simp
 rw[<- e];rfl
end
inductive Sm where
 |put (n:Str) (p:Nat) (v:Int)|wake|beg (a b c d:Int)|box (n:Str) (v:Int)|log (n:Str) (p:Nat) (v:Int)|trn
noncomputable def Sm.d:Sm->Dt
 |.put n p v=>.t [.str "put",.str n,.int p,.int v]
 |.wake=>.t [.str "wake"]
 |.beg a b c d=>.t [.str "begin",.int a,.int b,.int c,.int d]
 |.box n v=>.t [.str "box",.str n,.int v]
 |.log n p v=>.t [.str "log",.str n,.int p,.int v]
 |.trn=>.t [.str "turn"]
abbrev Tn:=(Str×Nat)×Int
noncomputable def Tn.d(t:Tn):Dt:=.t [.t [.str t.1.1,.int t.1.2],.int t.2]
variable{ts:η Tn}{e:Dt}{q:Bool}{P:η Dt}{S':HS}
section
variable{S:HS}{lv:CV}{rf:η (Key×CV)}{tl:CH}
theorem md{ch:CH}{k:Str}(hl:ts.length<=qa5):F15 [.g (.str k),.g (.e (ts.map Tn.d))] ch=ς (.g (.e (ts.map λt=>.t [.str k,.str t.1.1,.int t.1.2,.int t.2])),ch):=by
 have:=bz (pt:=.many [0,1]) (ft:=tYs) (fe:=eTu (aCn (eV 2) (aCn (eIx (eV 0) (eK (.int 0))) (aCn (eIx (eV 0) (eK (.int 1))) (aCn (eV 1) aNl))))) (δ:=gC [ψ,ψ,ς 0] [ς (.g (.str k)),ς (.g (.e (ts.map Tn.d)))]) (ch:=ch) (f:=Tn.d) (g:=λt:Tn=>.t [.str k,.str t.1.1,.int t.1.2,.int t.2]) (l:=ts) λt _=>⟨_,rfl,rfl,rfl⟩
 refine xR (.v 0 (show eCo .v [ψ,ψ,ς 0] (iE (eV 1)) (bnd (.many [0,1])) tYs (eTu (aCn (eV 2) (aCn (eIx (eV 0) (eK (.int 0))) (aCn (eIx (eV 0) (eK (.int 1))) (aCn (eV 1) aNl))))) [ς (.g (.str k)),ς (.g (.e (ts.map Tn.d)))] ch=ς (.g (.e (ts.map λt=>.t [.str k,.str t.1.1,.int t.1.2,.int t.2])),ch)from ?_) .nil);simp[eCo,iE,eV,lent,itD,this,qa2,hl,bO,fin,T.d]
noncomputable def eU(ts:η Tn):η Sm:=ts.map λt=>.put t.1.1 t.1.2 t.2
noncomputable def nO(ts:η Tn):η Sm:=ts.map λt=>.log t.1.1 t.1.2 t.2
theorem re{ch:CH}{a b c d:Dt}(hl:ts.length<qa5):F16 [.g (.t [a,b,c,d,e,.e (ts.map Tn.d)])] ch=ς (.ref ch.length,ch++[dl ((eU ts++[Sm.wake]).map Sm.d)]):=by
 have h1:=md (ch:=ch) (k:="put") (qq7 hl);have O:(eU ts++[Sm.wake]).map Sm.d=(ts.map λt=>.t [.str "put",.str t.1.1,.int t.1.2,.int t.2])++[.t [.str "wake"]]:=by simp[eU,Sm.d,qb1]
 have h2:oAdd.g (.e (ts.map λt=>.t [.str "put",.str t.1.1,.int t.1.2,.int t.2])) (.e [.t [.str "wake"]])=ς (.e ((eU ts++[Sm.wake]).map Sm.d)):=by rw[O];simp[oAdd,orO,eM,show ts.length+1<=qa5 from hl]
 exact xR (.v 0 h1 (.t 0 h2 .nil))
section
variable{ch':CH}{n p v a b c d:Dt}
theorem Cs(h:F28 [.ref 1,.g n,.g p,.g v] (hb S lv rf tl)=ς (.g .non,ch')):F34 [.ref 1,.g (.t [.str "put",n,p,v])] (hb S lv rf tl)=ς (.g .non,ch'):=xR (.v 0 h .nil)
theorem uS(h:F30 [.ref 1,.g a,.g b,.g c,.g d] (hb S lv rf tl)=ς (.g .non,ch')):F34 [.ref 1,.g (.t [.str "begin",a,b,c,d])] (hb S lv rf tl)=ς (.g .non,ch'):=xR (.v 0 h .nil)
theorem uT(h:F31 [.ref 1,.g n,.g v] (hb S lv rf tl)=ς (.g .non,ch')):F34 [.ref 1,.g (.t [.str "box",n,v])] (hb S lv rf tl)=ς (.g .non,ch'):=xR (.v 0 h .nil)
theorem uU(h:F32 [.ref 1,.g n,.g p,.g v] (hb S lv rf tl)=ς (.g .non,ch')):F34 [.ref 1,.g (.t [.str "log",n,p,v])] (hb S lv rf tl)=ς (.g .non,ch'):=xR (.v 0 h .nil)
theorem Ct:F34 [.ref 1,.g (.t [.str "turn"])] (hb S lv rf tl)=ς (.g .non,hb {S with cnt:=1-S.cnt} lv rf tl):=xR .nil
theorem eqI'{a b:Int}(h:decide (a=b)=q):oEq.g (.int a) (.int b)=ς (.f (.bl q)):=by rw[<- h];rfl
theorem nP{d:Dt}(hp:S.plan=d::P)(hl:S.plan.length<=1000000):qQ (eAt 3 10 (eV 0)) (eK (.int 0)) [ς (.ref 0),ψ] (hb S lv rf tl)=ς (.g d,hb {S with plan:=P} lv rf tl):=by rw[hp]at hl;rwa[qc2]at hl;have e:(hb S lv rf tl).set 3 (.e (P.map .g))=hb {S with plan:=P} lv rf tl:=rfl;simp[qQ,eAt,eV,eK,lent,Ch,hb_3,hp,cu,bY,ixN,e];lia
theorem ix0{d:Dt}:ixV ch (.g (.t (d::l))) (.int 0)=ς (.g d):=by show(ixD _ _).map CV.g=_;simp[ixD,bW,gIx,atI,ixN]
theorem noWk{k:Str}(O:(k=qd0 "wake")=False):oEq.g (.str k) (.str "wake")=ς (.f (.bl ξ)):=by show ς (T.f (.bl (decide (k=qd0 "wake"))))=_;rw[decide_eq_false (by rw[O];exact id)]
theorem dZ{k:Str}{r:η Dt}{q:Dt}(hp:S.plan=.t (.str k::r)::q::P)(Y:(k=qd0 "wake")=False)(hl:S.plan.length<=1000000)(U:F34 [.ref 1,.g (.t (.str k::r))] (hb {S with plan:=q::P} lv rf tl)=ς (.g .non,ch'))(O:ch'[0]?=ς (hO S' lv (.ref 3)))(W:ch'[3]?=ς (dl (q::P))):F35 [.ref 0] (hb S lv rf tl)=ς (.g .non,ch'):=by exact xR (.v 0 (nP (lv:=lv) (rf:=rf) (tl:=tl) hp hl) (.c 0 (ix0 (ch:=hb {S with plan:=q::P} lv rf tl) (d:=.str k) (l:=r)) (.t 0 (noWk Y) (.v 0 U (.h 0 O (.d 0 (vl (ch:=ch') (i:=3) (L:=q::P) W) (.t 1 (eqI' (a:=((q::P).length:Int)) (b:=0) (decide_eq_false (by simp;lia))) .nil)))))))
theorem nQ{k:Str}{r:η Dt}{a b c d e:CV}{bx:CO}{lg:η (η Key×CV)}(hp:S.plan=[.t (.str k::r)])(W:(k=qd0 "wake")=False)(O:F34 [.ref 1,.g (.t (.str k::r))] (hb {S with plan:=[]} (.ref 13) rf tl)=ς (.g .non,hb S' (.ref 13) rf (.ins 1 [a,b,c,d,.ref 14,e,.ref 15]::bx::.dT lg::ch')))(U:S'.plan=[]):F35 [.ref 0] (hb S (.ref 13) rf tl)=ς (.g .non,hb S' (.ref 13) rf (.ins 1 [a,b,c,d,.ref 14,e,.ref 15]::bx::.dT []::ch')):=by
 have h4:oEq.g (.int S'.plan.length) (.int 0)=ς (.f (.bl θ)):=by rw[U];rfl
 exact xR (.v 0 (nP (lv:=.ref 13) (rf:=rf) (tl:=tl) hp (by rw[hp];simp)) (.c 0 (ix0 (ch:=hb {S with plan:=[]} (.ref 13) rf tl) (d:=.str k) (l:=r)) (.t 0 (noWk W) (.v 0 O (.d 0 (vl (ch:=hb S' (.ref 13) rf (.ins 1 [a,b,c,d,.ref 14,e,.ref 15]::bx::.dT lg::ch')) (i:=3) (L:=S'.plan) rfl) (.t 1 h4 .nil))))))
end
abbrev Bx:=Str×Int
noncomputable def Bx.d(t:Bx):Dt:=.t [.str t.1,.int t.2]
noncomputable def bxK(l:η Bx):η (Key×Dt):=l.map λt=>(.inr t.1,.int t.2)
theorem eY{ch:CH}:∀l:η Bx,aP ch (l.map (CV.g ∘ Bx.d))=ς (dp (bxK l))
 |[]=>rfl
 |t::l=>by rwa[qa3,Function.comp_apply,aP,Bx.d,b9,cN,qb2,qa0,eY (ch:=ch) l];rfl
theorem k7{l:η Bx}(O:(l.map (·.1)).Nodup):((bxK l).map (·.1)).Nodup:=by
 have e:(bxK l).map (·.1)=(l.map (·.1)).map qj1:=by simp[bxK]
 rw[e];exact qm6 _ (λa b h q=>h (qy6 q)) O
theorem uV{l:η (Key×Dt)}(O:(l.map (·.1)).Nodup):l4 .o (dp l) ch=ς (.ref ch.length,ch++[.dK (dp l)]):=by unfold l4;rw[dA];dsimp only;rw[nN];rwa[fin,al,O,if_true];rfl
theorem yg{a b c d u:Int}{l:η Bx}{t:Dt}(O:(l.map (·.1)).Nodup):F27 [.ref 0,.g (.t [.int a,.int b,.int c,.int d,.e (l.map Bx.d),t]),I u] [.ins 1 []]=ς (.g .non,[.ins 1 [I a,I b,I c,I d,.ref 1,I u,.ref 2],.dK (dp (bxK l)),.dT []]):=by
 have U:((dp (bxK l)).map (·.1)).Nodup:=by rw[di];exact k7 O
 have h1:eDc .o (eIx (eV 1) (eK (.int 4))) [ς (.ref 0),ς (.g (.t [.int a,.int b,.int c,.int d,.e (l.map Bx.d),t])),ς (I u)] [.ins 1 [I a,I b,I c,I d]]=ς (.ref 1,[.ins 1 [I a,I b,I c,I d],.dK (dp (bxK l))]):=by show(aP _ ((l.map Bx.d).map .g)).bind _=_;rw[qd2,eY,qa0,if_pos U,uV (k7 O)];rfl
 exact xR (.v 0 h1 .nil)
theorem ee{κ:Type}{l:η (κ×Dt)}:rnP ρ (dp l)=dp l:=by simp[rnP,dp,rn,qb1]
theorem nR {a b c d:Int} {l:η Bx} {t:Dt} (hp:S.plan=[.t [.str "wake"]]) (hc:S.cnt=0\/S.cnt=1) (h0:S.h0.length=4) (h1:S.h1.length=4) (hg:pgD S=[.int a,.int b,.int c,.int d,.e (l.map Bx.d),t]) (hn:(l.map (·.1)).Nodup) :
  F35 [.ref 0] (hb S lv rf tl)=ς (.g .non,hb {S with plan:=[]} (.ref (tl.length+13)) rf (tl++[.ins 1 [I a,I b,I c,I d,.ref (tl.length+13+1),I S.dust,.ref (tl.length+13+2)],.dK (dp (bxK l)),.dT []])):=by
 have U:F18 [.ref 0,I S.cnt] (hb {S with plan:=[]} lv rf tl)=ς (.g (.t (pgD S)),hb {S with plan:=[]} lv rf tl):=o9 (S:={S with plan:=[]}) h0 h1 hc
 have O:=gH (F:=F27) (c:=1) (n:=3) (ch:=hb {S with plan:=[]} lv rf tl) (δ:=[ς (.ref 0),ς (.g (.t [.str "wake"]))]) (fs:=aCn (eMe 3 2 F18 (eV 0) (aCn (eMe 3 1 F20 (eV 0) aNl) aNl)) (aCn (eAt 3 8 (eV 0)) aNl)) (ds:=[.t (pgD S),.int S.dust]) (ai _) (by have hpg':F18 [.ref 0,I {S with plan:=[]}.cnt] (hb {S with plan:=[]} lv rf tl)=ς (.g (.t (pgD S)),hb {S with plan:=[]} lv rf tl):=U;simp! only[];simp! [uR,U]) rfl (by rw[hg];exact yg hn) Ξ
 have eL:(hb {S with plan:=[]} lv rf tl).length=tl.length+13:=rfl
 have eX:hb {S with plan:=[]} lv rf tl++zf7 (rnO λx=>tl.length+13+x) [CO.ins 1 [I a,I b,I c,I d,.ref 1,I S.dust,.ref 2],.dK (dp (bxK l)),.dT []]=hb {S with plan:=[]} lv rf (tl++[.ins 1 [I a,I b,I c,I d,.ref (tl.length+13+1),I S.dust,.ref (tl.length+13+2)],.dK (dp (bxK l)),.dT []]):=by rwa[qa3,qg0,rnO,rn,ee];rfl
 rw[eL,eX]at O;generalize Y:tl++[CO.ins 1 [I a,I b,I c,I d,.ref (tl.length+13+1),I S.dust,.ref (tl.length+13+2)],.dK (dp (bxK l)),.dT []]=W at O ⊢;have t1:W[tl.length]?=ς (CO.ins 1 [I a,I b,I c,I d,.ref (tl.length+13+1),I S.dust,.ref (tl.length+13+2)]):=by rw[<- Y];simp
 have t2:W[tl.length+2]?=ς (CO.dT []):=by rw[<- Y,qe1 Θ];simp
 have t3:W.set (tl.length+2) (CO.dT [])=W:=by
  refine qk6 λj=>?_
  by_cases Z:tl.length+2=j
  .subst Z;rw[qe3 (aj t2),t2]
  .rw[gN Z]
 have e4:(hb {S with plan:=[]} (.ref (tl.length+13)) rf W)[tl.length+13+2]?=ς (CO.dT []):=by rw[show tl.length+13+2=tl.length+2+13 by lia,Ci,t2]
 have e5:(hb {S with plan:=[]} (.ref (tl.length+13)) rf W).set (tl.length+13+2) (CO.dT [])=hb {S with plan:=[]} (.ref (tl.length+13)) rf W:=by have:(hb {S with plan:=[]} (.ref (tl.length+13)) rf W).set (tl.length+2+13) (CO.dT [])=hb {S with plan:=[]} (.ref (tl.length+13)) rf (W.set (tl.length+2) (CO.dT [])):=rfl;rw[show tl.length+13+2=tl.length+2+13 by lia,this,t3]
 have e6:sCl θ (eAt 1 6 (eAt 3 9 (eV 0))) [ς (.ref 0),ς (.g (.t [.str "wake"]))] (hb {S with plan:=[]} (.ref (tl.length+13)) rf W)=ς (.nx [ς (.ref 0),ς (.g (.t [.str "wake"]))] (hb {S with plan:=[]} (.ref (tl.length+13)) rf W)):=by simp[sCl,eAt,eV,lent,Ch,Ci,t1,e4,e5,BK]
 exact xR (.v 0 (nP (lv:=lv) (rf:=rf) (tl:=tl) hp (by rw[hp];simp)) (.v 0 O (.o 0 e6 .nil)))
end
def Vi(d:Dt):Prop:=∃i:Int,d=.int i/\0<=i/\i<1099511627776
abbrev Vn(i:Int):Prop:=0<=i/\i<1099511627776
theorem Vi.n{i:Int}(h:Vi (.int i)):Vn i:=by have⟨j,e,h⟩:=h;cases e;exact h
theorem Vn.i{i:Int}(h:Vn i):Vi (.int i):=⟨i,rfl,h⟩
structure LS where
 pl:Int
 dn:Int
 he:Int
 sy:Int
 du:Int
 bx:List (Key×Dt)
 lg:List (List Key×Dt)
def lO(l:LS):CO:=.ins 1 [I l.pl,I l.dn,I l.he,I l.sy,.ref 14,I l.du,.ref 15]
abbrev hl(S:HS)(l:LS)(rf:η (Key×CV))(tl:CH):CH:=hb S (.ref 13) rf (lO l::.dK (dp l.bx)::.dT (dp l.lg)::tl)
def iv(z:Int):ζ Dt->Int
 |some (.int i)=>i
 |_=>z
def lv{κ:Type}[DecidableEq κ](b:η (κ×Dt))(z:Int)(k:κ):Int:=iv z (am (b.map (·.1)) (b.map (·.2)) k)
def wv(f:Str->Int):Key->Int
 |.inl i=>i
 |.inr s=>f s
abbrev bv(b:η (Key×Dt))(z:Int)(s:Str):Int:=lv b z (.inr s)
section
variable{κ:Type}[DecidableEq κ]{k k':κ}{d:Dt}{b:η (κ×Dt)}{z:Int}
omit x in
theorem iG{κ:Type}[DecidableEq κ]{k k':κ}{d:Dt}:∀{b:η (κ×Dt)},am ((aZ b k d).map (·.1)) ((aZ b k d).map (·.2)) k'=if k=k' then ς d else am (b.map (·.1)) (b.map (·.2)) k'
 |[]=>by simp[aZ,am]
 |p::b=>by
  have O:=iG (k:=k) (k':=k') (d:=d) (b:=b);unfold aZ;split
  .rename_i e;rwa[qa3,am];by_cases h:k=k'
   .rw[if_pos (e.trans h),if_pos h]
   .rw[if_neg (λq=>h (e.symm.trans q)),if_neg h,if_neg (λq=>h (e.symm.trans q))]
  .rename_i e;rwa[qa3,am];rw[O];by_cases h:k=k'
   .rw[if_pos h,if_neg (λq=>e (q.trans h.symm)),if_pos h]
   .rw[if_neg h,if_neg h]
theorem nS{v:Int}:lv (aZ b k (.int v)) z k'=if k=k' then v else lv b z k':=by unfold lv;rw[iG];split<;>rfl
end
abbrev Sh:=η (Str×Nat)
def bE(a:Key):Prop:=Vi (aB a)\/∃s,a=.inr s
noncomputable def ac:Nat->Sh->η (Key×CV)
 |_,[]=>[]
 |o,p::r=>(.inr p.1,.ref o)::ac (o+1) r
theorem bF{n:Str}:∀{sh:Sh}{o k:Nat},(sh.map (·.1)).Nodup->sh[k]?=ς (n,m)->lkC (ac o sh) (.inr n)=ς (.ref (k+o))
 |[],o,k,_,h=>by cases h
 |p::r,o,0,W,h=>by cases h;simp[ac,lkC,qt1]
 |p::r,o,k+1,W,h=>by
  have O:=qc8.mp W;have Y:n∈r.map (·.1):=qb8.mpr ⟨_,qa4 h,rfl⟩;have:¬ p.1=n:=λe=>O.1 (by show p.1∈_;rw[e];exact Y)
  have U:=bF (o:=o+1) O.2 h;rwa[ac,lkC,qt1,qo8,this,decide_false]at U ⊢;rw[U];simp;lia
abbrev Vf:=Str->Nat->Int
abbrev row(g:Vf)(q:Str×Nat):η Dt:=(qd9 q.2).map λp=>.int (g q.1 p)
def aa(sh:Sh)(g:Vf):CH:=sh.map λq=>dl (row g q)
def fu(g:Vf)(n:Str)(p:Nat)(v:Int):Vf:=λn' O=>if n'=n/\O=p then v else g n' O
section
variable{sh:Sh}{g:Vf}{n:Str}{k m p:Nat}{v:Int}
theorem aM(h:sh[k]?=ς (n,m)):(aa sh g)[k]?=ς (dl (row g (n,m))):=by simp[aa,h]
theorem bI:(aa sh g).length=sh.length:=by simp[aa]
theorem cG:(row g (n,m)).length=m:=Ξ
theorem nT(h:p<m):(row g (n,m))[p]?=ς (.int (g n p)):=by simp[h]
theorem zu:∀{sh:Sh}{j k:Nat}{a b:Str×Nat},(sh.map (·.1)).Nodup->sh[j]?=ς a->sh[k]?=ς b->a.1=b.1->j=k
 |[],_,_,_,_,_,h,_,_=>by cases h
 |q::sh,0,0,_,_,_,_,_,_=>rfl
 |q::sh,0,k+1,a,b,O,h1,h2,e=>by cases h1;exact absurd (qb8.mpr ⟨b,qa4 (l:=sh) h2,e.symm⟩:_∈sh.map (·.1)) (qc8.mp O).1
 |q::sh,j+1,0,a,b,O,h1,h2,e=>by cases h2;exact absurd (qb8.mpr ⟨a,qa4 (l:=sh) h1,e⟩:_∈sh.map (·.1)) (qc8.mp O).1
 |q::sh,j+1,k+1,a,b,O,h1,h2,e=>by rw[zu (qc8.mp O).2 h1 h2 e]
theorem Cu:row (fu g n p v) (n,m)=(row g (n,m)).set p (.int v):=by
 refine qk6 λi=>?_
 rw[List.getElem?_set];by_cases h:p=i
 .subst h;by_cases hp:p<m<;>simp[hp,fu]
 .rw[if_neg h];by_cases hi:i<m<;>simp[hi,fu,qj7 h]
theorem jP(W:(sh.map (·.1)).Nodup)(O:sh[k]?=ς (n,m)):(aa sh g).set k (dl ((row g (n,m)).set p (.int v)))=aa sh (fu g n p v):=by
 refine qk6 λj=>?_
 by_cases h:k=j
 .subst h;rw[qe3 (by rw[bI];exact aj O),aM O,Cu]
 .rw[gN h];cases q:sh[j]? with
  |none=>simp[aa,q]
  |some a=>
   have U:¬ a.1=n:=λe=>h (zu W O q e.symm)
   have e:row (fu g n p v) a=row g a:=by simp[fu,U]
   rwa[aa,qa9,q,qb2];rw[e]
end
variable{sg:Str}
section
variable{S:HS}{lv':CV}{rf:η (Key×CV)}{tl:CH}{l:LS}{x y z:CO}
theorem zw:(hb S lv' rf (lO l::y::z::tl))[13]?=ς (.ins 1 [I l.pl,I l.dn,I l.he,I l.sy,.ref 14,I l.du,.ref 15]):=rfl
theorem EH:(hb S lv' rf (x::y::z::tl))[15]?=ς z:=rfl
theorem iH{κ:Type}[DecidableEq κ]{k:κ}:∀b:η (κ×Dt),lkC (dp b) k=(am (b.map (·.1)) (b.map (·.2)) k).map .g
 |[]=>rfl
 |p::b=>by
  have O:=iH (k:=k) b;by_cases h:p.1=k
  .simp[lkC,dp,am,qt1,h]
  .rwa[lkC,dp,qa3,qt1,h,decide_false,am,if_false]at O ⊢;exact O
theorem nU{κ:Type}[DecidableEq κ]{k:κ}{d:Dt}:∀b:η (κ×Dt),bB (dp b) k (.g d)=dp (aZ b k d)
 |[]=>rfl
 |p::b=>by
  have O:=nU (k:=k) (d:=d) b;rwa[dp,qa3,bB,aZ]at O ⊢;split
  .rfl
  .rw[O];rfl
omit x in
theorem gK{κ:Type}[DecidableEq κ]{k:κ}{d:Dt}{p:κ×Dt}:∀{b:η (κ×Dt)},p∈aZ b k d->p=(k,d)\/p∈b
 |[],h=>by simp[aZ]at h;exact .inl h
 |q::b,h=>by
  unfold aZ at h;split at h
  .rename_i e;rcases qb9.mp h with rfl|h
   .exact .inl (by rw[e])
   .exact .inr (.tail _ h)
  .rcases qb9.mp h with rfl|h
   .exact .inr (.head _)
   .rcases gK h with h|h
    .exact .inl h
    .exact .inr (.tail _ h)
theorem eZ{κ:Type}[DecidableEq κ]{k:κ}{d:Dt}:∀{b:η (κ×Dt)},(aZ b k d).length<=b.length+1
 |[]=>by simp[aZ]
 |q::b=>by
  unfold aZ;split
  .simp
  .have:=eZ (k:=k) (d:=d) (b:=b);simp;lia
omit x in
theorem aJ{κ:Type}[DecidableEq κ]{k:κ}{d:Dt}:∀{b:η (κ×Dt)},am (b.map (·.1)) (b.map (·.2)) k=ς d->(k,d)∈b
 |[],h=>by cases h
 |p::b,h=>by
  rwa[qa3,am]at h;split at h
  .rename_i e;cases h;rw[<- e];exact .head _
  .exact .tail _ (aJ h)
theorem mf{z:Int}{o:ζ Dt}(h:∀d,o=ς d->Vi d):(o.map CV.g).getD (I z)=I (iv z o)/\(Vn z->Vn (iv z o)):=by
 cases o with
 |none=>exact⟨rfl,id⟩
 |some d=>have⟨i,rfl,q⟩:=h d rfl;exact⟨rfl,λ_=>q⟩
theorem mh{f:Str->Int}(h:∀s,Vn (f s)){a:Key}(O:bE a):Vn (wv f a):=by
 cases a with
 |inl i=>rcases O with h|⟨s,h⟩;exact h.n;cases h
 |inr s=>exact h s
theorem bv_n{b:η (Key×Dt)}{z:Int}(hz:Vn z)(h:∀p∈b,Vi p.2)(s:Str):Vn (bv b z s):=(mf λd e=>h _ (aJ e)).2 hz
theorem mi(O:∀p∈l.bx,Vi p.2)(a:Key):F37 [.ref 13,.g (aB a)] (hl S l rf tl)=ς (I (wv (bv l.bx l.du) a),hl S l rf tl):=by
 cases a with
 |inl i=>exact xR .nil
 |inr s=>have h2:=(mf (z:=l.du) λd e=>O _ (aJ (k:=qj1 s) e)).1;exact xR (.c 0 (show getV (hl S l rf tl) (.ref 14) (.str s) (I l.du)=ς (I (bv l.bx l.du s))by show ς ((lkC (dp l.bx) (.inr s)).getD (I l.du))=_;rw[iH,h2];rfl) .nil)
theorem mdI{v m q:Int}(h:v%m=q)(O:0<m):oMod.g (.int v) (.int m)=ς (.f (.int q)):=by show(if 0<m then ς (T.f (.int (v%m)))else ψ)=_;rw[if_pos O,h]
theorem ltI{a b:Int}(h:decide (a<b)=q):oLt.g (.int a) (.int b)=ς (.f (.bl q)):=by rw[<- h];rfl
theorem eqI{a b:Int}(h:decide (a=b)=q):oEq.g (.int a) (.int b)=ς (.f (.bl q)):=by rw[<- h];rfl
theorem eqS{a b:Str}(h:decide (a=b)=q):oEq.g (.str a) (.str b)=ς (.f (.bl q)):=by rw[<- h];rfl
theorem gq{b:η (Key×Dt)}{x:Key}{v:Dt}(h:b.length<qa5):ip (.dK (dp b)) (aB x) (.g v)=ς (.dK (dp (aZ b x v))):=by cases x<;>(show(if(dp b).length<qa5 then ς (CO.dK (bB (dp b) _ (.g v)))else ψ)=_;rw[if_pos (by rw[uQ];exact h),nU])
theorem ixL{i p:Nat}{L:η Dt}{d:Dt}(h:ch[i]?=ς (.e (L.map .g)))(hp:L[p]?=ς d):ixV ch (.ref i) (.int p)=ς (.g d):=by have hl:=aj hp;show(ch[i]?).bind _=_;rw[h];show atI (L.map CV.g) (p:Int)=_;unfold atI;rw[qa2,show ixN L.length (p:Int)=ς p by unfold ixN;simp;lia];show(L.map CV.g)[p]?=_;rw[qa9,hp];rfl
theorem vlg:vw (hl S l rf tl) (.ref 15)=ς (.dcT (l.lg.map (·.1)) (l.lg.map (·.2))):=by show(dats ((dp l.lg).map (·.2))).map (Dt.dcT ((dp l.lg).map (·.1)))=_;rw[dA,di];rfl
theorem k8{n p:Nat}(h:p<n):ixN n (p:Int)=ς p:=by unfold ixN;simp;lia
variable{sh:Sh}{g:Vf}{n:Str}{k m p:Nat}{v:Int}
theorem uW(O:∀p∈l.bx,Vi p.2)(a:Key)(hs:am S.x.sk S.x.sv (.inr n)=ς (.int m))(U:0<m):F39 [.ref 0,.g (.str n),.g (aB a)] (hl S l rf tl)=ς (I (wv (bv l.bx l.du) a%m).toNat,hl S l rf tl):=by have h1:=mi (S:=S) (rf:=rf) (tl:=tl) O a;have h2:=qg1 (wv (bv l.bx l.du) a) (show(m:Int)≠0 by lia);exact xR (.v 0 h1 (.c 0 (show ixV (hl S l rf tl) (.g (.dct S.x.sk S.x.sv)) (.str n)=ς (I m)by show(ixD _ _).map CV.g=_;simp[ixD,bW,cN,hs]) (.t 0 (mdI (v:=wv (bv l.bx l.du) a) (m:=m) (q:=((wv (bv l.bx l.du) a%m).toNat:Int)) Θ Θ) .nil)))
theorem Cv(U:(sh.map (·.1)).Nodup)(O:sh[k]?=ς (n,m))(hp:p<m):F43 [.ref 1,.g (.str n),I p] (hl S l (ac 16 sh) (aa sh g))=ς (I (g n p),hl S l (ac 16 sh) (aa sh g)):=xR (.c 0 (show ixV (hl S l (ac 16 sh) (aa sh g)) (.ref 4) (.str n)=ς (.ref (k+16))from bF U O) (.c 0 (ixL (ch:=hl S l (ac 16 sh) (aa sh g)) (i:=k+16) (aM O) (nT hp)) .nil))
abbrev va(lg:η (η Key×Dt))(g:Vf):Vf:=λn p=>lv lg (g n p) [.inr n,.inl (p:Int)]
theorem uX(W:∀q∈l.lg,Vi q.2)(Z:(sh.map (·.1)).Nodup)(Y:sh[k]?=ς (n,m))(hp:p<m):F44 [.ref 0,.g (.str n),I p] (hl S l (ac 16 sh) (aa sh g))=ς (I (va l.lg g n p),hl S l (ac 16 sh) (aa sh g)):=by
 have O:oIn.g (.t [.str n,.int p]) (.dcT (l.lg.map (·.1)) (l.lg.map (·.2)))=ς (.f (.bl (am (l.lg.map (·.1)) (l.lg.map (·.2)) [qj1 n,qj6 (p:Int)]).isSome)):=rfl;cases q:am (l.lg.map (·.1)) (l.lg.map (·.2)) [qj1 n,qj6 (p:Int)]with
 |some d=>
  have⟨i,rfl,h2⟩:=W _ (aJ q);have e:va l.lg g n p=i:=by show iv _ _=_;rw[q];rfl
  rw[e];rw[q]at O;exact xR (.d 0 (vlg (S:=S) (l:=l) (rf:=ac 16 sh) (tl:=aa sh g)) (.t 0 O (.c 0 (show ixV (hl S l (ac 16 sh) (aa sh g)) (.ref 15) (.t [.str n,.int p])=ς (I i)by show lkC (dp l.lg) _=_;rw[iH,q];rfl) .nil)))
 |none=>
  have U:=Cv (S:=S) (l:=l) (g:=g) Z Y hp;have e:va l.lg g n p=g n p:=by show iv _ _=_;rw[q];rfl
  rw[e];rw[q]at O;exact xR (.d 0 (vlg (S:=S) (l:=l) (rf:=ac 16 sh) (tl:=aa sh g)) (.t 0 O (.v 0 U .nil)))
theorem pb(U:(sh.map (·.1)).Nodup)(O:sh[k]?=ς (n,m))(hp:p<m):F28 [.ref 1,.g (.str n),I p,I v] (hl S l (ac 16 sh) (aa sh g))=ς (.g .non,hl S l (ac 16 sh) (aa sh (fu g n p v))):=by have:=Cm (S:=S) (lv:=.ref 13) (k:=k+3) (l:=row g (n,m)) (v:=.int v) (rf:=ac 16 sh) (n:=n) (p:=p) (tl:=lO l::.dK (dp l.bx)::.dT (dp l.lg)::aa sh g) (bF (o:=16) U O) ‹aM (g:=g) O› ‹hp›;rw[<- jP U O];exact this
def gr(x:Fx)(n:Str):Bool:=x.tw.any λy=>eqF y (.str n)
theorem uY(W:∀d∈S.x.tw,∃s,d=.str s)(hn:(sh.map (·.1)).Nodup)(Z:sh[k]?=ς (n,m))(hp:p<m)(U:l.lg.length<qa5):F38 [.ref 0,.g (.str n),I p,I v] (hl S l (ac 16 sh) (aa sh g))=ς (.g .non,if gr S.x n then hl S {l with lg:=aZ l.lg [.inr n,.inl p] (.int v)} (ac 16 sh) (aa sh g)else hl S l (ac 16 sh) (aa sh (fu g n p v))):=by
 have hf:S.x.tw.all cL=θ:=qc9.mpr λd Y=>by have⟨s,rfl⟩:=W d Y;rfl
 have O:=pb (S:=S) (l:=l) (g:=g) (v:=v) hn Z hp
 have hi:oIn.g (.str n) (.e S.x.tw)=ς (.f (.bl (gr S.x n))):=by
  have:inD (.str n) (.e S.x.tw)=ς (gr S.x n):=by show(if(θ&&S.x.tw.all cL)=θ then ς (S.x.tw.any λy=>eqF y (.str n))else ψ)=_;rw[hf];rfl
  show orO (gIn ξ) (qY ξ) _ _=_;unfold orO gIn;rw[this];rfl
 cases q:gr S.x n with
 |true=>rw[q]at hi;exact xR (.t 0 hi (.p 0 (show ip (.dT (dp l.lg)) (.t [.str n,.int p]) (I v)=ς (.dT (dp (aZ l.lg [.inr n,.inl p] (.int v))))by show(if(dp l.lg).length<qa5 then ς (CO.dT (bB (dp l.lg) [.inr n,.inl (p:Int)] (I v)))else ψ)=_;rw[if_pos (by rw[uQ];exact U),nU]) .nil))
 |false=>rw[q]at hi;exact xR (.t 0 hi (.v 0 O .nil))
def ltr(inc:η Dt)(h:Int):Int:=iv 0 inc[h.toNat]?
theorem rh(hi:∀d∈S.x.inc,Vi d)(W:0<=l.he):F45 [.ref 0] (hl S l rf tl)=ς (I (ltr S.x.inc l.he),hl S {l with he:=l.he+1} rf tl):=by
 by_cases h:l.he<S.x.inc.length
 .have⟨p,hp⟩:=qh9 W;have O:p<S.x.inc.length:=by lia
  have⟨i,h1,h2⟩:=hi S.x.inc[p] (qp9 O);have U:ixV (hl S {l with he:=l.he+1} rf tl) (.g (.e S.x.inc)) (.int l.he)=ς (I i):=by show(ixD _ _).map CV.g=_;rw[hp];simp[ixD,bW,gIx,atI,k8 O,O,h1]
  have e:ltr S.x.inc l.he=i:=by unfold ltr;rw[hp];simp[O,h1,iv]
  rw[e];exact xR (.t 1 (ltI (b:=(S.x.inc.length:Int)) (decide_eq_true h)) (.c 0 U .nil))
 .have e:ltr S.x.inc l.he=0:=by unfold ltr;rw[qd6 Θ];rfl
  rw[e];exact xR (.t 1 (ltI (b:=(S.x.inc.length:Int)) (decide_eq_false h)) .nil)
theorem zx{inc:η Dt}{h:Int}(hi:∀d∈inc,Vi d):Vn (ltr inc h):=(mf λd e=>hi d (qa4 e)).2 (by constructor<;>decide)
def num(sg:Str)(a b:Int):Int:=if sg=qd0 "+" then a+b else if sg=qd0 "-" then a-b else if sg=qd0 "*" then a*b else if sg=qd0 "<" then(if a<b then 1 else 0)else if sg=qd0 "=" then(if a=b then 1 else 0)else if sg=qd0 "&" then iv 0 ((oBan.g (.int a) (.int b)).bind T.d)else if sg=qd0 "|" then iv 0 ((oBor.g (.int a) (.int b)).bind T.d)else iv 0 ((oXor.g (.int a) (.int b)).bind T.d)
def vo(sg:Str)(a b:Int):Int:=num sg a b%1099511627776
theorem vo_n{a b:Int}:Vn (vo sg a b):=by unfold vo;constructor<;>lia
theorem zy{a b:Int}(hb':Vn b):F42 [.g (.str sg),I a,I b] ch=ς (I (vo sg a b),ch):=by
 have Z:F41 [.g (.str sg),I a,I b] ch=ς (I (num sg a b),ch):=by
  have hm:oMul.g (.int a) (.int b)=ς (.f (.int (a*b))):=by simp[oMul,orO,iY,oF (i:=a) (j:=b) Θ Θ]
  unfold num;by_cases h:sg=qd0 "+"
  .rw[if_pos h];exact xR (.t 0 (eqS (decide_eq_true h)) .nil)
  have O:=eqS (decide_eq_false h);rw[if_neg h];clear h;by_cases h:sg=qd0 "-"
  .rw[if_pos h];exact xR (.t 0 O (.t 0 (eqS (decide_eq_true h)) .nil))
  have e2:=eqS (decide_eq_false h);rw[if_neg h];clear h;by_cases h:sg=qd0 "*"
  .rw[if_pos h];exact xR (.t 0 O (.t 0 e2 (.t 0 (eqS (decide_eq_true h)) (.t 0 hm .nil))))
  have W:=eqS (decide_eq_false h);rw[if_neg h];clear h;by_cases h:sg=qd0 "<"
  .rw[if_pos h];by_cases U:a<b
   .rw[if_pos U];exact xR (.t 0 O (.t 0 e2 (.t 0 W (.t 0 (eqS (decide_eq_true h)) (.t 0 (ltI (decide_eq_true U)) .nil)))))
   .rw[if_neg U];exact xR (.t 0 O (.t 0 e2 (.t 0 W (.t 0 (eqS (decide_eq_true h)) (.t 0 (ltI (decide_eq_false U)) .nil)))))
  have Y:=eqS (decide_eq_false h);rw[if_neg h];clear h;by_cases h:sg=qd0 "="
  .rw[if_pos h];by_cases U:a=b
   .rw[if_pos U];exact xR (.t 0 O (.t 0 e2 (.t 0 W (.t 0 Y (.t 0 (eqS (decide_eq_true h)) (.t 0 (eqI (decide_eq_true U)) .nil))))))
   .rw[if_neg U];exact xR (.t 0 O (.t 0 e2 (.t 0 W (.t 0 Y (.t 0 (eqS (decide_eq_true h)) (.t 0 (eqI (decide_eq_false U)) .nil))))))
  have e5:=eqS (decide_eq_false h);rw[if_neg h];clear h;by_cases h:sg=qd0 "&"
  .rw[if_pos h];exact xR (.t 0 O (.t 0 e2 (.t 0 W (.t 0 Y (.t 0 e5 (.t 0 (eqS (decide_eq_true h)) .nil))))))
  have e6:=eqS (decide_eq_false h);rw[if_neg h];clear h;by_cases h:sg=qd0 "|"
  .rw[if_pos h];exact xR (.t 0 O (.t 0 e2 (.t 0 W (.t 0 Y (.t 0 e5 (.t 0 e6 (.t 0 (eqS (decide_eq_true h)) .nil)))))))
  rw[if_neg h];exact xR (.t 0 O (.t 0 e2 (.t 0 W (.t 0 Y (.t 0 e5 (.t 0 e6 (.t 0 (eqS (decide_eq_false h)) .nil)))))))
 exact xR (.v 0 Z .nil)
end
variable{y:Str}
theorem Cw{x:Str}(h:x.length+y.length<=qa5):eM (.str x) (.str y)=ς (.f (.str (x++y))):=if_pos h
theorem EI{x:Str}{i:Int}(h:x.length<=qa5):gIxA (.str x) (.int i)=(atI x.cps.toList i).map λc=>.f (.str ⟨#[c]⟩):=if_pos h
theorem pd{n:Nat}(h:n<=1000000):n<=qa5:=qd7 h Ω
noncomputable def kTBq(b:Bool):De->ζ T:=λ_=>ς (.f (.bl b))
theorem nV(cs:η Nat):zf6 "" (cs.map λc=>(⟨#[c]⟩:Str))=⟨cs.toArray⟩:=by
 have W:("":Str).cps=#[]:=by decide +kernel
 have go:∀(l:η Nat)(O:Array Nat),(l.map λc=>(⟨#[c]⟩:Str)).foldl (λO p=>O++("":Str).cps++p.cps) O=O++l.toArray:=by
  intro l;induction l with
  |nil=>intro O;simp
  |cons c l U=>intro O;rw[qa3,qs0,U,W];simp
 unfold zf6 qj2.Str.glued;cases cs with
 |nil=>rfl
 |cons c r=>show(⟨(r.map λc=>(⟨#[c]⟩:Str)).foldl (λO p=>O++("":Str).cps++p.cps) (#[c]:Array Nat)⟩:Str)=_;rw[go];simp
theorem k9(cs:η Nat)(h:cs.length<=1000):JoinOk "" (cs.map λc=>(⟨#[c]⟩:Str))=θ:=by
 unfold JoinOk
 have h1:∀y∈cs.map (λc=>(⟨#[c]⟩:Str)),y.length<=1:=λy O=>by have⟨c,_,rfl⟩:=qb8.mp O;exact nL _
 rw[StrLaws.joinFits h1 (by rw[qa2,show("":Str).length=0 by decide +kernel];lia)];rfl
theorem eg:∀ts:η Str,cY (ts.map .str)=ς ts
 |[]=>rfl
 |t::r=>by show(cY (r.map .str)).map (t::·)=_;rw[eg r];rfl
noncomputable def sgD(cs:η Nat):η Dt:=cs.map λc=>.str ⟨#[c]⟩
theorem uZ{cs:η Nat}(h:cs.length<=1000):km (.str "") [.e (sgD cs)]=ς (.f (.str ⟨cs.toArray⟩)):=by
 have e:sgD cs=(cs.map λc=>(⟨#[c]⟩:Str)).map .str:=by unfold sgD;rw[qd2];rfl
 show(cY (sgD cs)).bind _=_;rw[e,eg,qa0,if_pos (k9 cs h),nV]
theorem Cy{α:Type}{xs:η α}{i:Int}(U:0<=i)(h1:i<xs.length):∃v,atI xs i=ς v/\v∈xs:=by
 have⟨n,rfl⟩:=qh9 U;have O:n<xs.length:=by lia
 exact⟨xs[n],wF (by simp[O]),qp9 O⟩
theorem yh(x:Str):x.length=x.cps.toList.length:=by show x.cps.size=_;simp
theorem yi{x:Str}{i:Int}(hl:x.length<=1000000)(O:0<=i)(h1:i<x.length):∃c,gIxA (.str x) (.int i)=ς (.f (.str ⟨#[c]⟩))/\c∈x.cps.toList:=by have⟨c,e,U⟩:=Cy (xs:=x.cps.toList) O (by rw[<- yh];exact h1);refine⟨c,?_,U⟩;rw[EI (pd hl),e];rfl
inductive Rw where
 |op (x sg:Str) (a b:Key)|load (x n:Str)|store (n:Str) (a:Key)|take (x n:Str) (a:Key)|lay (n:Str) (a b:Key)|copy (x:Str) (a:Key)|hear (x:Str)|say (a:Key)|ife (x:Str) (t:Int)|go (t:Int)|fin (a:Key)
noncomputable def Rw.d:Rw->Dt
 |.op x sg a b=>.t [.str "op",.str x,.str sg,aB a,aB b]
 |.load x n=>.t [.str "load",.str x,.str n]
 |.store n a=>.t [.str "store",.str n,aB a]
 |.take x n a=>.t [.str "take",.str x,.str n,aB a]
 |.lay n a b=>.t [.str "lay",.str n,aB a,aB b]
 |.copy x a=>.t [.str "copy",.str x,aB a]
 |.hear x=>.t [.str "hear",.str x]
 |.say a=>.t [.str "say",aB a]
 |.ife x t=>.t [.str "if",.str x,.int t]
 |.go t=>.t [.str "go",.int t]
 |.fin a=>.t [.str "end",aB a]
def Vp(sh:Sh)(n:Str)(p:Nat):Prop:=∃(k m:Nat),sh[k]?=ς (n,m)/\p<m
def nW(x:Fx)(sh:Sh)(n:Str):Prop:=∃(k m:Nat),sh[k]?=ς (n,m)/\0<m/\am x.sk x.sv (.inr n)=ς (.int m)
def vb(x:Fx)(sh:Sh):Rw->Prop
 |.op _ _ a b=>bE a/\bE b
 |.load _ n=>Vp sh n 0
 |.store n a=>Vp sh n 0/\bE a
 |.take _ n a=>nW x sh n/\bE a
 |.lay n a b=>nW x sh n/\bE a/\bE b
 |.copy _ a|.say a|.fin a=>bE a
 |.hear _|.ife _ _|.go _=>True
structure XOk(x:Fx)(sh:Sh):Prop where
 nd:(sh.map (·.1)).Nodup
 tw:∀d∈x.tw,∃s,d=.str s
 inc:∀d∈x.inc,Vi d
structure AM where
 pl:Nat
 dn:Int
 he:Int
 out:List Int
 b:Str->Int
 f:Vf
def sz(x:Fx)(n:Str):Int:=iv 0 (am x.sk x.sv (.inr n))
noncomputable def mj:Rw->Bool
 |.op _ _ _ _|.load _ _|.take _ _ _|.copy _ _|.hear _=>θ
 |_=>ξ
def Rw.x:Rw->Str
 |.op x _ _ _|.load x _|.take x _ _|.copy x _|.hear x=>x
 |_=>qd0 ""
def bo(x:Fx)(a:AM):Rw->Int
 |.op _ sg p q=>vo sg (wv a.b p) (wv a.b q)
 |.load _ n=>a.f n 0
 |.take _ n p=>a.f n (wv a.b p%sz x n).toNat
 |.copy _ p=>wv a.b p
 |.hear _=>ltr x.inc a.he
 |_=>0
def heA(a:AM):Rw->Int
 |.hear _=>a.he+1
 |_=>a.he
def bu(b:Str->Int)(x:Str)(v:Int):Str->Int:=λs=>if x=s then v else b s
def doA(x:Fx)(a:AM)(r:Rw):AM:=match r with
 |.store n p=>{a with f:=fu a.f n 0 (wv a.b p)}
 |.lay n p q=>{a with f:=fu a.f n (wv a.b p%sz x n).toNat (wv a.b q)}
 |.say p=>{a with out:=a.out++[wv a.b p]}
 |.ife _ _|.go _|.fin _=>a
 |r=>{a with he:=heA a r,b:=bu a.b r.x (bo x a r)}
def goA(a:AM):Rw->Int
 |.go t=>t
 |.ife y t=>if a.b y=0 then a.pl+1 else t
 |_=>a.pl+1
def stA(x:Fx)(a:AM)(r:Rw):AM:={doA x {a with dn:=a.dn+1} r with pl:=(goA a r).toNat}
variable{r:Rw}
theorem pe{x:Fx}{a:AM}(h:mj r=θ):doA x a r={a with he:=heA a r,b:=bu a.b r.x (bo x a r)}:=by cases r<;>first|(cases h;done)|rfl
def aS(o:η Int):η (Key×Dt):=o.zipIdx.map λq=>(.inl (q.2:Int),.int q.1)
theorem vc{o:η Int}{v:Int}:aS (o++[v])=aS o++[(.inl (o.length:Int),.int v)]:=by simp[aS,List.zipIdx_append]
theorem iI{o:η Int}{i:Nat}:am ((aS o).map (·.1)) ((aS o).map (·.2)) (qj6 (i:Int))=o[i]?.map Dt.int:=by
 have O:∀(o:η Int)(k:Nat),am ((o.zipIdx k).map λq=>(qj6 (q.2:Int):Key)) ((o.zipIdx k).map λq=>Dt.int q.1) (qj6 ((k+i:Nat):Int))=o[i]?.map Dt.int:=by
  induction i with
  |zero=>intro o k;cases o<;>simp[am]
  |succ i U=>
   intro o k;cases o with
   |nil=>simp[am]
   |cons v o=>have:=U o (k+1);rw[show k+1+i=k+(i+1)by lia]at this;rwa[List.zipIdx_cons,qa3,am,qd1];rw[if_neg (by simp;lia)];exact this
 have:=O o 0;rwa[aS,qd2,qb1];rw[zc5]at this;exact this
omit x in
theorem pi{κ:Type}[DecidableEq κ]{k:κ}{d:Dt}:∀{b:η (κ×Dt)},am (b.map (·.1)) (b.map (·.2)) k=ψ->aZ b k d=b++[(k,d)]
 |[],_=>rfl
 |p::b,h=>by
  rwa[qa3,am]at h;unfold aZ;split at h
  .cases h
  .rename_i e;rw[if_neg e,pi h];rfl
structure HA(sh:Sh)(N:Nat)(S:HS)(l:LS)(g:Vf)(a:AM):Prop where
 pl:l.pl=a.pl
 dn:l.dn=a.dn
 he:l.he=a.he
 h0:0<=a.he
 sy:l.sy=a.out.length
 du:l.du=0
 bx:bv l.bx 0=a.b
 bi:∀p∈l.bx,Vi p.2
 bn:l.bx.length<=N
 lg:∀q∈l.lg,(∃(n:Str)(p:Nat),q.1=[.inr n,.inl (p:Int)]/\Vp sh n p/\gr S.x n=θ)/\Vi q.2
 ln:l.lg.length<=N
 nd:(l.lg.map (·.1)).Nodup
 f:va l.lg g=a.f
 gn:∀n p,Vn (g n p)
 ft:S.fst=aS a.out
 on:a.out.length<=N
section
variable{S:HS}{l:LS}{sh:Sh}{N:Nat}{g:Vf}{a:AM}
theorem vn0:Vn 0:=by constructor<;>decide
theorem HA.bN(h:HA sh N S l g a)(s:Str):Vn (a.b s):=by rw[<- h.bx];exact bv_n vn0 h.bi s
theorem HA.fN(h:HA sh N S l g a)(n:Str)(p:Nat):Vn (a.f n p):=by rw[<- h.f];exact(mf λd e=>(h.lg _ (aJ e)).2).2 (h.gn n p)
theorem HA.wa(h:HA sh N S l g a)(p:Key){rf:η (Key×CV)}{tl:CH}:F37 [.ref 13,.g (aB p)] (hl S l rf tl)=ς (I (wv a.b p),hl S l rf tl):=by have:=mi (S:=S) (rf:=rf) (tl:=tl) h.bi p;rw[h.du,h.bx]at this;exact this
theorem HA.val(h:HA sh N S l g a)(U:(sh.map (·.1)).Nodup){n:Str}{p:Nat}(hp:Vp sh n p):F44 [.ref 0,.g (.str n),I p] (hl S l (ac 16 sh) (aa sh g))=ς (I (a.f n p),hl S l (ac 16 sh) (aa sh g)):=by have⟨k,m,h1,h2⟩:=hp;have:=uX (S:=S) (l:=l) (g:=g) (λq O=>(h.lg q O).2) U h1 h2;rw[h.f]at this;exact this
theorem vd{x:Fx}{n:Str}(h:am x.sk x.sv (.inr n)=ς (.int m)):sz x n=m:=by unfold sz;rw[h];rfl
theorem nX{v:Int}(h:0<m):(v%m).toNat<m:=by have h2:=qg1 v (show(m:Int)≠0 by lia);have O:=qg7 v (show(0:Int)<m by lia);lia
theorem HA.place(h:HA sh N S l g a){n:Str}(hs:nW S.x sh n)(p:Key):Vp sh n (wv a.b p%sz S.x n).toNat/\F39 [.ref 0,.g (.str n),.g (aB p)] (hl S l (ac 16 sh) (aa sh g))=ς (I (wv a.b p%sz S.x n).toNat,hl S l (ac 16 sh) (aa sh g)):=by have⟨k,m,h1,h2,O⟩:=hs;have:=uW (S:=S) (rf:=ac 16 sh) (tl:=aa sh g) h.bi p O h2;rw[h.du,h.bx]at this;rw[vd O];exact⟨⟨k,m,h1,nX h2⟩,this⟩
omit x in
theorem iJ(r:Rw)(hs:mj r=θ)(X:XOk S.x sh)(U:vb S.x sh r)(h:HA sh N S l g a):F46 [.ref 0,.g r.d] (hl S l (ac 16 sh) (aa sh g))=ς (I (bo S.x a r),hl S {l with he:=heA a r} (ac 16 sh) (aa sh g)):=by
 have same:hl S {l with he:=a.he} (ac 16 sh) (aa sh g)=hl S l (ac 16 sh) (aa sh g):=by rw[<- h.he]
 have wa:=λp=>h.wa p (rf:=ac 16 sh) (tl:=aa sh g)
 cases r<;>try(cases hs;done)
 .rename_i x sg p q;have O:=zy (sg:=sg) (a:=wv a.b p) (b:=wv a.b q) (ch:=hl S l (ac 16 sh) (aa sh g)) (mh h.bN U.2);rwa[heA,bo];rw[same];exact xR (.v 0 (wa p) (.v 0 (wa q) (.v 0 O .nil)))
 .rename_i x n;have O:F44 [.ref 0,.g (.str n),.g (.int 0)] (hl S l (ac 16 sh) (aa sh g))=ς (I (a.f n 0),hl S l (ac 16 sh) (aa sh g)):=h.val X.nd U;rwa[heA,bo];rw[same];exact xR (.v 0 O .nil)
 .rename_i x n p;have⟨h4,Y⟩:=h.place U.1 p;have W:=h.val X.nd h4;rwa[heA,bo];rw[same];generalize (wv a.b p%sz S.x n).toNat=z at Y W ⊢;exact xR (.v 0 Y (.v 0 W .nil))
 .rename_i x p;rwa[heA,bo];rw[same];exact xR (.v 0 (wa p) .nil)
 .have h1:=rh (S:=S) (l:=l) (rf:=ac 16 sh) (tl:=aa sh g) X.inc (by rw[h.he];exact h.h0);rw[h.he]at h1;rwa[heA,bo];exact xR (.v 0 h1 .nil)
end
variable{lv':CV}{rf:η (Key×CV)}{tl:CH}
section
variable{S:HS}{l:LS}{sh:Sh}{N:Nat}{g:Vf}{a:AM}
theorem vfs:vw (hb S lv' rf tl) (.ref 8)=ς (.dct (S.fst.map (·.1)) (S.fst.map (·.2))):=by show(dats ((dp S.fst).map (·.2))).map (Dt.dct ((dp S.fst).map (·.1)))=_;rw[dA,di];rfl
theorem yj{o:η Int}{v:Int}(hf:S.fst=aS o)(U:o.length<qa5){lv':CV}{rf:η (Key×CV)}{tl:CH}:F40 [.ref 2,I o.length,I v] (hb S lv' rf tl)=ς (.g .non,hb {S with fst:=aS (o++[v])} lv' rf tl):=by
 have q:am (S.fst.map (·.1)) (S.fst.map (·.2)) (qj6 (o.length:Int))=ψ:=by rw[hf,iI];simp
 have O:oNi.g (.int o.length) (.dct (S.fst.map (·.1)) (S.fst.map (·.2)))=ς (.f (.bl (!(am (S.fst.map (·.1)) (S.fst.map (·.2)) (qj6 (o.length:Int))).isSome))):=rfl;rw[q]at O;have hp:=gq (b:=S.fst) (x:=.inl (o.length:Int)) (v:=.int v) (by rw[hf];simpa[aS] using U);rw[pi q,hf,<- vc,<- hf]at hp;exact xR (.d 0 (vfs (S:=S) (tl:=tl) (lv':=lv') (rf:=rf)) (.t 0 O (.p 0 hp .nil)))
omit x in
theorem ml{κ:Type}[DecidableEq κ]{k:κ}{d:Dt}:∀{b:η (κ×Dt)},(b.map (·.1)).Nodup->((aZ b k d).map (·.1)).Nodup/\∀j,j∈(aZ b k d).map (·.1)->j=k\/j∈b.map (·.1)
 |[],_=>by simp[aZ]
 |p::b,h=>by
  have h':=qc8.mp h;have⟨W,U⟩:=ml (k:=k) (d:=d) (b:=b) h'.2;unfold aZ;split
  .exact⟨h,λj O=>.inr O⟩
  .rename_i e;refine⟨qc8.mpr ⟨λY=>?_,W⟩,λj O=>?_⟩
   .rcases U _ Y with q|q
    .exact e q
    .exact h'.1 q
   .rcases qb9.mp O with q|q
    .exact .inr (by rw[q];exact .head _)
    .rcases U _ q with q|q
     .exact .inl q
     .exact .inr (.tail _ q)
theorem HA.up(h:HA sh N S l g a):HA sh (N+1) S l g a:=⟨h.pl,h.dn,h.he,h.h0,h.sy,h.du,h.bx,h.bi,qa7 h.bn,h.lg,qa7 h.ln,h.nd,h.f,h.gn,h.ft,qa7 h.on⟩
theorem HA.setb(h:HA sh N S l g a){v h':Int}(O:Vn v)(U:0<=h'):HA sh (N+1) S {l with he:=h',bx:=aZ l.bx (.inr y) (.int v)} g {a with he:=h',b:=bu a.b y v}:=by
 refine⟨h.pl,h.dn,rfl,U,h.sy,h.du,?_,λp hp=>?_,qd7 eZ (qp5 h.bn),h.lg,qa7 h.ln,h.nd,h.f,h.gn,h.ft,qa7 h.on⟩
 .funext s;show lv _ _ _=_;rw[nS];unfold bu;rw[<- h.bx];by_cases e:y=s<;>simp[e]
 .rcases gK hp with rfl|hp
  .exact O.i
  .exact h.bi p hp
theorem HA.wr(h:HA sh N S l g a){n:Str}{p:Nat}{v:Int}(W:Vn v)(hp:Vp sh n p):∃l' g',(if gr S.x n then hl S {l with lg:=aZ l.lg [.inr n,.inl p] (.int v)} (ac 16 sh) (aa sh g)else hl S l (ac 16 sh) (aa sh (fu g n p v)))=hl S l' (ac 16 sh) (aa sh g')/\HA sh (N+1) S l' g' {a with f:=fu a.f n p v}:=by
 cases q:gr S.x n with
 |true=>
  refine⟨_,g,rfl,h.pl,h.dn,h.he,h.h0,h.sy,h.du,h.bx,h.bi,qa7 h.bn,λr U=>?_,qd7 eZ (qp5 h.ln),(ml h.nd).1,?_,h.gn,h.ft,qa7 h.on⟩
  .rcases gK U with rfl|U
   .exact⟨⟨n,p,rfl,hp,q⟩,W.i⟩
   .exact h.lg r U
  .funext n' O;show lv _ _ _=fu a.f n p v n' O;rw[nS];unfold fu;rw[<- h.f];by_cases e:n'=n/\O=p
   .rw[if_pos e,if_pos (by rw[e.1,e.2])]
   .rw[if_neg e,if_neg (by rwa[qm4,qo8,qj6.injEq,and_true];intro w;exact e ⟨w.1.symm,Θ⟩)]
 |false=>
  refine⟨l,fu g n p v,rfl,h.pl,h.dn,h.he,h.h0,h.sy,h.du,h.bx,h.bi,qa7 h.bn,h.lg,qa7 h.ln,h.nd,?_,λn' O=>?_,h.ft,qa7 h.on⟩
  .funext n' O;show lv l.lg (fu g n p v n' O) _=fu a.f n p v n' O;unfold fu;rw[<- h.f];by_cases e:n'=n/\O=p
   .rw[if_pos e,if_pos e];cases w:am (l.lg.map (·.1)) (l.lg.map (·.2)) [qj1 n',qj6 (O:Int)]with
    |none=>unfold lv;rw[w];rfl
    |some d=>have⟨⟨m,j,h1,_,h2⟩,_⟩:=h.lg _ (aJ w);rwa[qm4,qo8]at h1;rw[<- h1.1,e.1,q]at h2;cases h2
   .rw[if_neg e,if_neg e]
  .unfold fu;split
   .exact W
   .exact h.gn n' O
theorem Cz(h:HA sh N S l g a)(hi:∀d∈S.x.inc,Vi d)(O:vb S.x sh r):Vn (bo S.x a r):=by cases r<;>first|exact vo_n|exact h.fN _ _|exact mh h.bN O|exact zx hi|exact vn0
theorem CA(r:Rw)(hs:∀a,r≠.fin a)(X:XOk S.x sh)(U:vb S.x sh r)(h:HA sh N S l g a)(Y:N<qa5):∃l' g',F47 [.ref 0,.g r.d] (hl S l (ac 16 sh) (aa sh g))=ς (.g .non,hl {S with fst:=aS (doA S.x a r).out} l' (ac 16 sh) (aa sh g'))/\HA sh (N+1) {S with fst:=aS (doA S.x a r).out} l' g' (doA S.x a r):=by
 have O:l.bx.length<qa5:=qj0 h.bn Y;have W:({S with fst:=aS a.out}:HS)=S:=by rw[<- h.ft]
 have set:mj r=θ->F47 [.ref 0,.g r.d] (hl S l (ac 16 sh) (aa sh g))=ς (.g .non,hl S {l with he:=heA a r,bx:=aZ l.bx (.inr r.x) (.int (bo S.x a r))} (ac 16 sh) (aa sh g))->∃l' g',F47 [.ref 0,.g r.d] (hl S l (ac 16 sh) (aa sh g))=ς (.g .non,hl {S with fst:=aS (doA S.x a r).out} l' (ac 16 sh) (aa sh g'))/\HA sh (N+1) {S with fst:=aS (doA S.x a r).out} l' g' (doA S.x a r):=λhq e=>by rw[pe hq,W];exact⟨_,g,e,h.setb (Cz h X.inc U) (by have:=h.h0;cases r<;>rwa[heA]<;>lia)⟩
 have wr:∀{n:Str}{p:Nat}{v:Int},Vn v->Vp sh n p->∃l' g',F38 [.ref 0,.g (.str n),I p,I v] (hl S l (ac 16 sh) (aa sh g))=ς (.g .non,hl S l' (ac 16 sh) (aa sh g'))/\HA sh (N+1) S l' g' {a with f:=fu a.f n p v}:=λ{n p v} hv hp=>by have⟨l',g',e,H⟩:=h.wr hv hp;have⟨k,m,h1,h2⟩:=hp;have:=uY (S:=S) (l:=l) (g:=g) (v:=v) X.tw X.nd h1 h2 (qj0 h.ln Y);rw[e]at this;exact⟨l',g',this,H⟩
 cases r with
 |op x sg p q=>have h1:=iJ (.op x sg p q) rfl X U h;refine set rfl ?_;exact xR (.v 0 h1 (.p 0 (gq (b:=l.bx) (x:=.inr x) (v:=.int (bo S.x a (.op x sg p q))) O) .nil))
 |load x n=>have h1:=iJ (.load x n) rfl X U h;refine set rfl ?_;exact xR (.v 0 h1 (.p 0 (gq (b:=l.bx) (x:=.inr x) (v:=.int (bo S.x a (.load x n))) O) .nil))
 |take x n p=>have h1:=iJ (.take x n p) rfl X U h;refine set rfl ?_;exact xR (.v 0 h1 (.p 0 (gq (b:=l.bx) (x:=.inr x) (v:=.int (bo S.x a (.take x n p))) O) .nil))
 |copy x p=>have h1:=iJ (.copy x p) rfl X U h;refine set rfl ?_;exact xR (.v 0 h1 (.p 0 (gq (b:=l.bx) (x:=.inr x) (v:=.int (bo S.x a (.copy x p))) O) .nil))
 |hear x=>have h1:=iJ (.hear x) rfl X U h;refine set rfl ?_;exact xR (.v 0 h1 (.p 0 (gq (b:=l.bx) (x:=.inr x) (v:=.int (bo S.x a (.hear x))) O) .nil))
 |store n p=>have h1:=h.wa p (rf:=ac 16 sh) (tl:=aa sh g);have⟨l',g',h2,h3⟩:=wr (mh h.bN U.2) U.1;have Z:F38 [.ref 0,.g (.str n),.g (.int 0),I (wv a.b p)] (hl S l (ac 16 sh) (aa sh g))=ς (.g .non,hl S l' (ac 16 sh) (aa sh g')):=h2;refine⟨l',g',?_,by show HA sh (N+1) {S with fst:=aS a.out} _ _ _;rw[W];exact h3⟩;show _=ς (CV.g .non,hl {S with fst:=aS a.out} _ _ _);rw[W];exact xR (.v 0 h1 (.v 0 Z .nil))
 |lay n p q=>have⟨h4,h5⟩:=h.place U.1 p;have h1:=h.wa q (rf:=ac 16 sh) (tl:=aa sh g);have⟨l',g',h2,h3⟩:=wr (mh h.bN U.2.2) h4;refine⟨l',g',?_,by show HA sh (N+1) {S with fst:=aS a.out} _ _ _;rw[W];exact h3⟩;show _=ς (CV.g .non,hl {S with fst:=aS a.out} _ _ _);rw[W];generalize (wv a.b p%sz S.x n).toNat=z at h5 h2;exact xR (.v 0 h5 (.v 0 h1 (.v 0 h2 .nil)))
 |say p=>have h1:=h.wa p (rf:=ac 16 sh) (tl:=aa sh g);have h2:=yj (S:=S) (v:=wv a.b p) h.ft (qj0 h.on Y) (tl:=lO l::.dK (dp l.bx)::.dT (dp l.lg)::aa sh g) (lv':=.ref 13) (rf:=ac 16 sh);rw[<- h.sy]at h2;refine⟨{l with sy:=l.sy+1},g,?_,h.pl,h.dn,h.he,h.h0,by show l.sy+1=_;rw[h.sy];simp[doA],h.du,h.bx,h.bi,qa7 h.bn,h.lg,qa7 h.ln,h.nd,h.f,h.gn,rfl,by have:=h.on;simp[doA];lia⟩;exact xR (r:=(_,hl {S with fst:=aS (a.out++[wv a.b p])} {l with sy:=l.sy+1} (ac 16 sh) (aa sh g))) (.v 0 h1 (.v 0 h2 .nil))
 |ife x t=>refine⟨l,g,?_,by show HA sh (N+1) {S with fst:=aS a.out} _ _ _;rw[W];exact h.up⟩;show _=ς (CV.g .non,hl {S with fst:=aS a.out} _ _ _);rw[W];exact xR (r:=(_,hl S l (ac 16 sh) (aa sh g))) .nil
 |go t=>refine⟨l,g,?_,by show HA sh (N+1) {S with fst:=aS a.out} _ _ _;rw[W];exact h.up⟩;show _=ς (CV.g .non,hl {S with fst:=aS a.out} _ _ _);rw[W];exact xR (r:=(_,hl S l (ac 16 sh) (aa sh g))) .nil
 |fin a=>exact absurd rfl (hs a)
end
noncomputable def mn(i:Nat):Rw->Dt
 |.go t=>.t [.int t]
 |.ife _ t=>.t [.int t,.int (i+1)]
 |.fin _=>.t []
 |_=>.t [.int (i+1)]
def jQ(i:Nat)(r:Rw)(p:Int):Prop:=match r with
 |.go t=>p=t
 |.ife _ t=>p=t\/p=i+1
 |.fin _=>False
 |_=>p=i+1
section
variable{S:HS}{l:LS}{sh:Sh}{N:Nat}{g:Vf}{a:AM}
omit x in
theorem ve(r:Rw)(hs:∀a,r≠.fin a):jQ a.pl r (goA a r):=by
 cases r<;>first|rfl|exact absurd rfl (hs _)|skip
 rename_i y t;by_cases h:a.b y=0<;>simp[jQ,goA,h]
theorem gM{L:η Dt}{i:Nat}{d:Dt}(h:L[i]?=ς d):ixD (.e L) (.int i)=ς d/\ixD (.t L) (.int i)=ς d:=by have hi:=aj h;constructor<;>simp[ixD,bW,gIx,atI,k8 hi,h]
theorem dB{L:η Dt}{i:Nat}{d:Dt}{z:Int}(hz:z=i)(h:L[i]?=ς d):ixV ch (.g (.e L)) (.int z)=ς (.g d)/\ixV ch (.g (.t L)) (.int z)=ς (.g d):=by
 subst hz;constructor
 .show(ixD _ _).map CV.g=_;rw[(gM h).1];rfl
 .show(ixD _ _).map CV.g=_;rw[(gM h).2];rfl
noncomputable def kd:Rw->Str
 |.op _ _ _ _=>"op"
 |.load _ _=>"load"
 |.store _ _=>"store"
 |.take _ _ _=>"take"
 |.lay _ _ _=>"lay"
 |.copy _ _=>"copy"
 |.hear _=>"hear"
 |.say _=>"say"
 |.ife _ _=>"if"
 |.go _=>"go"
 |.fin _=>"end"
theorem zz:ixV ch (.g r.d) (.int 0)=ς (.g (.str (kd r))):=by cases r<;>kernel_rfl
theorem zA(hs:∀a,r≠.fin a):oEq.g (.str (kd r)) (.str "end")=ς (.f (.bl ξ)):=by cases r<;>first|exact absurd rfl (hs _)|kernel_rfl
theorem behind(r:Rw)(hs:∀a,r≠.fin a)(W:S.x.onw[a.pl]?=ς (mn a.pl r))(h:HA sh N S l g a){tl:CH}:F48 [.ref 0,.g r.d] (hl S l (ac 16 sh) tl)=ς (I (goA a r),hl S l (ac 16 sh) tl):=by
 have U:=(dB (ch:=hl S l (ac 16 sh) tl) h.pl W).1;cases r with
 |ife x t=>
  have h1:=h.wa (.inr x) (rf:=ac 16 sh) (tl:=tl);by_cases O:a.b x=0
  .rw[show goA a (.ife x t)=a.pl+1 from if_pos O];exact xR (.c 0 U (.v 0 h1 (.t 0 (eqI (decide_eq_true O)) .nil)))
  .rw[show goA a (.ife x t)=t from if_neg O];exact xR (.c 0 U (.v 0 h1 (.t 0 (eqI (decide_eq_false O)) .nil)))
 |fin a=>exact absurd rfl (hs a)
 |_=>exact xR (.c 0 U .nil)
theorem vf{b:Str->Int}(w:∀s,F37 [.ref 13,.g (.str s)] ch=ς (I (b s),ch)){f:η CV}(hf:ch[13]?=ς (.ins 1 f))(bs:η Str):aF (bnd (.one 0)) tYs (eTu (aCn (eK (.str "box")) (aCn (eV 0) (aCn (eMe 1 2 F37 (eV 1) (aCn (eV 0) aNl)) aNl)))) [ψ,ς (.ref 13)] (bs.map .str) ch=ς (bs.map λs=>.g (Sm.d (.box s (b s))),ch):=bz (f:=Dt.str) (g:=λs=>Sm.d (.box s (b s))) λs _=>⟨_,rfl,rfl,by simp[eTu,aCn,aNl,eK,eV,eMe,kCa,lent,hf,w s,CV.old,dats,qb7,Sm.d]⟩
def lgK(ts:η Tn):η (η Key×Dt):=ts.map λt=>([.inr t.1.1,.inl (t.1.2:Int)],.int t.2)
theorem vg{q:Str->Nat->Prop}:∀{lg:η (η Key×Dt)},(∀e∈lg,(∃(n:Str)(p:Nat),e.1=[.inr n,.inl (p:Int)]/\q n p)/\Vi e.2)->∃ts:η Tn,lg=lgK ts/\∀t∈ts,q t.1.1 t.1.2/\Vn t.2
 |[],_=>⟨[],rfl,Ξ⟩
 |e::lg,h=>by
  have⟨ts,h1,Y⟩:=vg λq hq=>h q (.tail _ hq)
  have⟨⟨n,p,h4,W⟩,i,U,Z⟩:=h e (.head _);have⟨q1,q2⟩:=e;cases h4;cases U;exact⟨((n,p),i)::ts,by rw[h1];rfl,λt O=>by rcases qb9.mp O with rfl|O;exact⟨W,Z⟩;exact Y t O⟩
theorem mo:∀{ts:η Tn},dS (lgK ts)=ts.map Tn.d
 |[]=>rfl
 |t::ts=>by have:=mo (ts:=ts);rwa[dS,lgK,qa3]at this ⊢;rw[this];rfl
def dI(a b c d:Int)(ks:η Bx)(ts:η Tn):η Sm:=Sm.beg a b c d::(ks.map λk=>.box k.1 k.2)++nO ts++[.trn]++eU ts
theorem yk{bs:η Str}{ts:η Tn}(h:HA sh N S l g a)(Z:l.lg=lgK ts)(hN:N+bs.length<1000000):F49 [.ref 13,.g (.t (bs.map .str))] (hl S l (ac 16 sh) tl)=ς (.ref (tl.length+16),hl S l (ac 16 sh) (tl++[dl ((dI l.pl l.dn l.he l.sy (bs.map λs=>(s,a.b s)) ts).map Sm.d)])):=by
 have k3:=vf (b:=a.b) (ch:=hl S l (ac 16 sh) tl) (λs=>h.wa (.inr s)) zw bs;have t1:dS l.lg=ts.map Tn.d:=by rw[Z,mo]
 have hts:ts.length<=N:=by have:=h.ln;rw[Z]at this;simpa[lgK] using this
 have n1:=λk=>md (ch:=hl S l (ac 16 sh) tl) (k:=k) (ts:=ts) (by rw[qb7];lia)
 rw[<- t1]at n1;have hz:((dp l.lg).map (·.1)).zip (l.lg.map (·.2))=l.lg:=nN;let B:η Dt:=bs.map λs=>Sm.d (.box s (a.b s))
 have g0:gC [ψ,ς 0] [ς (.ref 13),ς (.g (.t (bs.map .str))),ς (.g (.e [Sm.d (.beg l.pl l.dn l.he l.sy)])),ψ,ψ]=[ψ,ς (.ref 13)]:=rfl
 have W:eCo .v [ψ,ς 0] (iE (eV 1)) (bnd (.one 0)) tYs (eTu (aCn (eK (.str "box")) (aCn (eV 0) (aCn (eMe 1 2 F37 (eV 1) (aCn (eV 0) aNl)) aNl)))) [ς (.ref 13),ς (.g (.t (bs.map .str))),ς (.g (.e [Sm.d (.beg l.pl l.dn l.he l.sy)])),ψ,ψ] (hl S l (ac 16 sh) tl)=ς (.g (.e B),hl S l (ac 16 sh) tl):=by unfold eCo;rw[g0];have:iE (eV 1) [ς (.ref 13),ς (.g (.t (bs.map .str))),ς (.g (.e [Sm.d (.beg l.pl l.dn l.he l.sy)])),ψ,ψ] (hl S l (ac 16 sh) tl)=ς (bs.map .str,hl S l (ac 16 sh) tl):=rfl;rw[this,qa0,k3,qa0];dsimp only;rw[if_pos (by rw[qa2,qb7];lia),bO];rfl
 let G (k:Str):η Dt:=ts.map λt=>.t [.str k,.str t.1.1,.int t.1.2,.int t.2]
 have O:B.length=bs.length:=by simp[B]
 have Y:∀k,(G k).length=ts.length:=λk=>by simp[G]
 have U:eIl .v (eAt 1 6 (eV 0)) [ς (.ref 13),ς (.g (.t (bs.map .str))),ς (.g (.e [Sm.d (.beg l.pl l.dn l.he l.sy)])),ς (.g (.e B)),ψ] (hl S l (ac 16 sh) tl)=ς (.g (.e (dS l.lg)),hl S l (ac 16 sh) tl):=by rwa[eIl,eAt,eV];simp[lent,zw,EH,nz,dA,hz,fin,T.d]
 have hw:(dI l.pl l.dn l.he l.sy (bs.map λs=>(s,a.b s)) ts).map Sm.d=[Sm.d (.beg l.pl l.dn l.he l.sy)]++B++G "log"++[Sm.d .trn]++G "put":=by simp[dI,B,G,nO,eU,Sm.d,qb1]
 rw[hw];exact xR (.v 0 W (.v 0 U (.t 0 (nK (a:=[Sm.d (.beg l.pl l.dn l.he l.sy)]) (b:=B) (by rw[qb7];simp[O];lia)) (.v 0 (n1 "log") (.t 0 (nK (a:=[Sm.d (.beg l.pl l.dn l.he l.sy)]++B) (b:=G "log") (by rw[qb7];simp[O,Y];lia)) (.t 0 (nK (a:=[Sm.d (.beg l.pl l.dn l.he l.sy)]++B++G "log") (b:=[Sm.d .trn]) (by rw[qb7];simp[O,Y];lia)) (.v 0 (n1 "put") (.t 0 (nK (a:=[Sm.d (.beg l.pl l.dn l.he l.sy)]++B++G "log"++[Sm.d .trn]) (b:=G "put") (by rw[qb7];simp[O,Y];lia)) .nil))))))))
end
structure TlOk(tl:CH)(sh:Sh):Prop where
 len:tl.length=sh.length
 all:∀{o:CO},o∈tl->∃L,o=dl L
theorem aT{sh:Sh}{g:Vf}:TlOk (aa sh g) sh:=⟨bI,λ{o} h=>by have⟨q,_,rfl⟩:=qb8.mp h;exact⟨_,rfl⟩⟩
noncomputable def off:ζ LS->Nat
 |none=>13
 |some _=>16
noncomputable def lvO:ζ LS->CV
 |none=>.g .non
 |some _=>.ref 13
def az:ζ LS->CH->CH
 |none,tl=>tl
 |some l,tl=>lO l::.dK (dp l.bx)::.dT (dp l.lg)::tl
def hc(sh:Sh)(S:HS)(lo:ζ LS)(tl:CH):CH:=hb S (lvO lo) (ac (off lo) sh) (az lo tl)
section
variable{S:HS}{lo:ζ LS}{tl:CH}{sh:Sh}{σ:Nat->Nat}{l:LS}
theorem vh:13<=off lo:=by cases lo<;>simp[off]
theorem vi:(az lo tl).length+13=tl.length+off lo:=by cases lo<;>simp[az,off]
theorem CB:(hc sh S lo tl).length=tl.length+off lo:=by rw[<- vi];rfl
theorem cM{L:η Dt}:rnO σ (dl L)=dl L:=by simp[rnO,rn,qb1]
theorem cc:∀{sh:Sh}{o n:Nat},o+sh.length<=n->(ac o sh).all (λp=>clV n p.2)=θ
 |[],_,_,_=>rfl
 |p::r,o,n,h=>by rwa[qc2]at h;rwa[ac,qd4,clV,qa1,decide_eq_true_eq];exact⟨Θ,cc Θ⟩
theorem mq{L:η Dt}{n:Nat}:(L.map CV.g).all (clV n)=θ:=by simp[clV]
theorem mr{L:η Dt}{n:Nat}:clO n (dl L)=θ:=mq
theorem vj{κ:Type}{b:η (κ×Dt)}{n:Nat}:(dp b).all (λp=>clV n p.2)=θ:=by simp[dp,clV]
theorem lb{d:Dt}{n:Nat}:clV n (.g d)=θ:=rfl
theorem fY{i n:Nat}:clV n (.ref i)=decide (i<n):=rfl
theorem pj(h:TlOk tl sh):Cl (hc sh S lo tl):=by
 unfold Cl;rw[CB];have U:=cc (sh:=sh) (o:=off lo) (n:=tl.length+off lo) (by rw[h.len];lia);have O:tl.all (clO (tl.length+off lo))=θ:=qc9.mpr λo Y=>by have⟨L,rfl⟩:=h.all Y;exact mr
 have lt:∀k,k<13->decide (k<tl.length+off lo)=θ:=λk Z=>decide_eq_true (by have:=vh (lo:=lo);lia)
 cases lo with
 |none=>rwa[hc,hb,hO,az,lvO,qd4,qt7,clO,lb,fY,mq,vj,U,O,lt,qn1,zc6]
 |some l=>
  have W:∀k,k<16->decide (k<tl.length+off (ς l))=θ:=λk Z=>decide_eq_true (by show k<tl.length+16;lia)
  rwa[hc,hb,hO,az,lvO,lO,qd4,qt7,clO,lb,fY,mq,vj,U,O,W,qn1,zc6]
theorem cf:∀{sh:Sh}{o o':Nat},(∀k,k<sh.length->σ (k+o)=k+o')->rnP σ (ac o sh)=ac o' sh
 |[],_,_,_=>rfl
 |p::r,o,o',h=>by
  have U:=h 0 Ξ;rwa[zc5]at U;have O:=cf (sh:=r) (o:=o+1) (o':=o'+1) λk W=>by have:=h (k+1) ‹W›;rw[show k+(o+1)=k+1+o by lia,this];lia
  rwa[rnP,ac,qa3,rn,U]at O ⊢;rw[O]
theorem lc(h:TlOk tl sh)(h4:σ 14=14)(W:σ 15=15){o:CO}(O:o∈az lo tl):rnO σ o=o:=by
 have U:∀o∈tl,rnO σ o=o:=λo O=>by have⟨L,rfl⟩:=h.all O;exact cM
 cases lo with
 |none=>exact U o O
 |some l=>
  rwa[az,qb9]at O;rcases O with rfl|rfl|rfl|O
  .simp[lO,rnO,rn,h4,W]
  .rwa[rnO,ee]
  .rwa[rnO,ee]
  .exact U o O
theorem mt{lv:CV}{T raw:CH}(inj:∀i j,i<T.length+13->j<T.length+13->σ i=σ j->i=j)
 (h0:raw[σ 0]?=ς (rnO σ (hO S' lv (.ref 3)))) (h1:raw[σ 1]?=ς (rnO σ (.ins 2 [.ref 4,.ref 5,.ref 6,.ref 7,I S'.cnt,.g S'.res]))) (h2:raw[σ 2]?=ς (rnO σ (.ins 0 [.ref 8,.g (.bl S'.unl)]))) (h3:raw[σ 3]?=ς (dl S'.plan)) (h4:raw[σ 4]?=ς (rnO σ (.dK rf))) (Z:raw[σ 5]?=ς (.e [.g (.t S'.h0),.g (.t S'.h1)])) (Y:raw[σ 6]?=ς (.e [.ref (σ 9),.ref (σ 10)])) (h7:raw[σ 7]?=ς (.e [.ref (σ 11),.ref (σ 12)])) (h8:raw[σ 8]?=ς (.dK (dp S'.fst))) (h9:raw[σ 9]?=ς (dl S'.pb0)) (U:raw[σ 10]?=ς (dl S'.pb1)) (O:raw[σ 11]?=ς (dl S'.pt0)) (W:raw[σ 12]?=ς (dl S'.pt1))
 (ht:∀i o,T[i]?=ς o->raw[σ (i+13)]?=ς (rnO σ o)):At σ (hb S' lv rf T) raw:=by
 refine⟨λi j hi hj=>inj i j hi hj,λ{i o} hi=>?_⟩;have e:∀L,rnO σ (dl L)=dl L:=λL=>cM
 rcases i with _|_|_|_|_|_|_|_|_|_|_|_|_|i
 .cases hi;exact h0
 .cases hi;exact h1
 .cases hi;exact h2
 .cases hi;rw[e];exact h3
 .cases hi;exact h4
 .cases hi;exact Z
 .cases hi;exact Y
 .cases hi;exact h7
 .cases hi;rwa[rnO,ee];exact h8
 .cases hi;rw[e];exact h9
 .cases hi;rw[e];exact U
 .cases hi;rw[e];exact O
 .cases hi;rw[e];exact W
 .exact ht i o hi
noncomputable def sg2(a b n:Nat):Nat->Nat:=λi=>if i=a then n else if i=b then n+1 else i
theorem vm{a b n:Nat}(O:a<13)(hb:b<13):rn (sg2 a b n) (lvO lo)=lvO lo:=by
 cases lo
 .rfl
 .rwa[lvO,rn,sg2];rw[if_neg Θ,if_neg Θ]
theorem eh{a b n k:Nat}(U:a<13)(hb:b<13)(O:13<=k):sg2 a b n k=k:=by unfold sg2;rw[if_neg Θ,if_neg Θ]
theorem pk{a b n:Nat}(O:a≠b):∀i j,i<n->j<n->sg2 a b n i=sg2 a b n j->i=j:=λi j hi U e=>by unfold sg2 at e;split at e<;>split at e<;>(try split at e)<;>(try split at e)<;>lia
theorem vn{a b n:Nat}(O:a<13)(hb:b<13):rnP (sg2 a b n) (ac (off lo) sh)=ac (off lo) sh:=cf λk U=>eh O hb (by have:=vh (lo:=lo);lia)
theorem nY(h:TlOk tl sh):At (sg2 9 11 ((az lo tl).length+13)) (hc sh {S with pb0:=[],pt0:=[]} lo tl) (hbN S (lvO lo) (ac (off lo) sh) ((az lo tl).length+13) 10 ((az lo tl).length+1+13) 12 (az lo tl++[.e []]++[.e []])):=by
 have U:=vm (lo:=lo) (a:=9) (b:=11) (n:=(az lo tl).length+13) Θ Θ;have hr:=vn (sh:=sh) (lo:=lo) (a:=9) (b:=11) (n:=(az lo tl).length+13) Θ Θ;have hf:=λo Y=>lc (σ:=sg2 9 11 ((az lo tl).length+13)) (lo:=lo) (o:=o) h (eh Θ Θ Θ) (eh Θ Θ Θ) Y
 have W:=λk Z=>eh (a:=9) (b:=11) (n:=(az lo tl).length+13) (k:=k) Θ Θ Z
 unfold hc;generalize az lo tl=T at*
 have O:∀(k:Nat),(hbN S (lvO lo) (ac (off lo) sh) (T.length+13) 10 (T.length+1+13) 12 (T++[.e []]++[.e []]))[k+13]?=(T++[CO.e []]++[.e []])[k]?:=λk=>rfl
 refine mt (pk (a:=9) (b:=11) Ω) ?_ ?_ ?_ ?_ ?_ ?_ ?_ ?_ ?_ ?_ ?_ ?_ ?_ λi o hi=>?_
 .show ς (hO S (lvO lo) (.ref 3))=_;rwa[hO,rnO,qa3,qg0,bM,iB,U];rfl
 .rfl
 .rfl
 .rfl
 .show ς (CO.dK (ac (off lo) sh))=_;rwa[rnO,hr]
 .rfl
 .rfl
 .simp[sg2];show ς _=_;simp
 .rfl
 .show(hbN S (lvO lo) (ac (off lo) sh) (T.length+13) 10 (T.length+1+13) 12 (T++[.e []]++[.e []]))[T.length+13]?=_;rw[O];simp
 .rfl
 .show(hbN S (lvO lo) (ac (off lo) sh) (T.length+13) 10 (T.length+1+13) 12 (T++[.e []]++[.e []]))[T.length+13+1]?=_;rw[show T.length+13+1=T.length+1+13 by lia,O];simp
 .rfl
 .rw[W _ Θ,O,hf o (qa4 hi),qd8,gL (aj hi)];exact hi
theorem nZ(h:TlOk tl sh):At (sg2 10 12 ((az lo tl).length+13)) (hc sh {S with pb1:=[],pt1:=[]} lo tl) (hbN S (lvO lo) (ac (off lo) sh) 9 ((az lo tl).length+13) 11 ((az lo tl).length+1+13) (az lo tl++[.e []]++[.e []])):=by
 have U:=vm (lo:=lo) (a:=10) (b:=12) (n:=(az lo tl).length+13) Θ Θ;have hr:=vn (sh:=sh) (lo:=lo) (a:=10) (b:=12) (n:=(az lo tl).length+13) Θ Θ;have hf:=λo Y=>lc (σ:=sg2 10 12 ((az lo tl).length+13)) (lo:=lo) (o:=o) h (eh Θ Θ Θ) (eh Θ Θ Θ) Y
 have W:=λk Z=>eh (a:=10) (b:=12) (n:=(az lo tl).length+13) (k:=k) Θ Θ Z
 unfold hc;generalize az lo tl=T at*
 have O:∀(k:Nat),(hbN S (lvO lo) (ac (off lo) sh) 9 (T.length+13) 11 (T.length+1+13) (T++[.e []]++[.e []]))[k+13]?=(T++[CO.e []]++[.e []])[k]?:=λk=>rfl
 refine mt (pk (a:=10) (b:=12) Ω) ?_ ?_ ?_ ?_ ?_ ?_ ?_ ?_ ?_ ?_ ?_ ?_ ?_ λi o hi=>?_
 .show ς (hO S (lvO lo) (.ref 3))=_;rwa[hO,rnO,qa3,qg0,bM,iB,U];rfl
 .rfl
 .rfl
 .rfl
 .show ς (CO.dK (ac (off lo) sh))=_;rwa[rnO,hr]
 .rfl
 .rfl
 .simp[sg2];show ς _=_;simp
 .rfl
 .rfl
 .show(hbN S (lvO lo) (ac (off lo) sh) 9 (T.length+13) 11 (T.length+1+13) (T++[.e []]++[.e []]))[T.length+13]?=_;rw[O];simp
 .rfl
 .show(hbN S (lvO lo) (ac (off lo) sh) 9 (T.length+13) 11 (T.length+1+13) (T++[.e []]++[.e []]))[T.length+13+1]?=_;rw[show T.length+13+1=T.length+1+13 by lia,O];simp
 .rw[W _ Θ,O,hf o (qa4 hi),qd8,gL (aj hi)];exact hi
noncomputable def sgW(n:Nat):Nat->Nat:=λi=>if i<13 then i else if i<16 then n+(i-13)else i-3
theorem yl(h:TlOk tl sh):At (sgW (tl.length+13)) (hc sh S (ς l) tl) (hb S (.ref (tl.length+13)) (ac 13 sh) (tl++[.ins 1 [I l.pl,I l.dn,I l.he,I l.sy,.ref (tl.length+13+1),I l.du,.ref (tl.length+13+2)],.dK (dp l.bx),.dT (dp l.lg)])):=by
 have W:rnP (sgW (tl.length+13)) (ac 16 sh)=ac 13 sh:=cf λk Y=>by unfold sgW;rw[if_neg Θ,if_neg Θ];lia
 refine mt (λi j hi U e=>?_) ?_ rfl rfl rfl ?_ rfl rfl rfl rfl rfl rfl rfl rfl λi o hi=>?_
 .rwa[az,qc2]at hi U;unfold sgW at e;split at e<;>split at e<;>(try split at e)<;>(try split at e)<;>lia
 .rfl
 .show ς (CO.dK (ac 13 sh))=_;rwa[rnO];rw[show off (ς l)=16 from rfl,W]
 .have O:∀k,(hb S (.ref (tl.length+13)) (ac 13 sh) (tl++[.ins 1 [I l.pl,I l.dn,I l.he,I l.sy,.ref (tl.length+13+1),I l.du,.ref (tl.length+13+2)],.dK (dp l.bx),.dT (dp l.lg)]))[k+13]?=(tl++[CO.ins 1 [I l.pl,I l.dn,I l.he,I l.sy,.ref (tl.length+13+1),I l.du,.ref (tl.length+13+2)],.dK (dp l.bx),.dT (dp l.lg)])[k]?:=λ_=>rfl
  rcases i with _|_|_|i
  .cases hi;show(hb S _ _ _)[tl.length+13]?=_;rw[O,gR Θ,zf5];rfl
  .cases hi;show(hb S _ _ _)[tl.length+13+1]?=_;rw[show tl.length+13+1=tl.length+1+13 by lia,O,gR Θ,qe9];rwa[rnO,ee];rfl
  .cases hi;show(hb S _ _ _)[tl.length+13+2]?=_;rw[show tl.length+13+2=tl.length+2+13 by lia,O,gR Θ,qe9];rwa[rnO,ee];rfl
  .have hi:tl[i]?=ς o:=hi;have:sgW (tl.length+13) (i+1+1+1+13)=i+13:=by unfold sgW;rw[if_neg Θ,if_neg Θ];lia
   rw[this,O,gL (aj hi),hi];have⟨L,rfl⟩:=h.all (qa4 hi);rw[cM]
noncomputable def sg1(n:Nat):Nat->Nat:=λi=>if i=3 then n else i
theorem ym(h:TlOk tl sh):At (sg1 (tl.length+16)) (hc sh {S with plan:=P} (ς l) tl) ((hl S l (ac 16 sh) (tl++[dl P])).set 0 (hO S (.ref 13) (.ref (tl.length+16)))):=by
 have U:rnP (sg1 (tl.length+16)) (ac 16 sh)=ac 16 sh:=cf λk W=>by unfold sg1;rw[if_neg Θ]
 refine mt (λi j hi O e=>?_) rfl rfl rfl ?_ ?_ rfl rfl rfl rfl rfl rfl rfl rfl λi o hi=>?_
 .rwa[az,qc2]at hi O;unfold sg1 at e;split at e<;>split at e<;>lia
 .show(tl++[dl P])[tl.length]?=_;simp
 .show ς (CO.dK (ac 16 sh))=_;rwa[rnO];rw[show off (ς l)=16 from rfl,U]
 .have hf:=lc (σ:=sg1 (tl.length+16)) (lo:=ς l) (o:=o) h rfl rfl (qa4 hi);rw[hf];show((hl S l (ac 16 sh) (tl++[dl P])).set 0 (hO S (.ref 13) (.ref (tl.length+16))))[i+13]?=ς o;show(lO l::CO.dK (dp l.bx)::CO.dT (dp l.lg)::(tl++[dl P]))[i]?=ς o;rcases i with _|_|_|i
  .exact hi
  .exact hi
  .exact hi
  .have hi:tl[i]?=ς o:=hi;show(tl++[dl P])[i]?=ς o;rw[gL (aj hi)];exact hi
end
def fh(S:HS):η Dt:=if S.cnt=0 then S.h0 else S.h1
def oh(S:HS):η Dt:=if S.cnt=0 then S.h1 else S.h0
def IH(h:η Dt):Prop:=∃p d c s:Int,h=[.int p,.int d,.int c,.int s]
structure HW(x:Fx)(N:Nat)(S:HS):Prop where
 hx:S.x=x
 h0:IH S.h0
 h1:IH S.h1
 ct:S.cnt=0\/S.cnt=1
 b0:S.pb0.length<=N
 b1:S.pb1.length<=N
 t0:S.pt0.length<=N
 t1:S.pt1.length<=N
 un:S.unl=ξ
def PlW(a:AM)(sh:Sh):Nat->η Sm->Prop
 |0,.beg _ d _ _::P=>d=a.dn/\PlW a sh 1 P
 |1,.box _ _::P=>PlW a sh 1 P
 |1,.log _ _ _::P=>PlW a sh 1 P
 |1,.trn::P=>PlW a sh 2 P
 |2,.put n p v::P=>Vp sh n p/\Vn v/\PlW a sh 2 P
 |2,[]=>True
 |_,_=>False
def fv:Vf->η Sm->Vf
 |g,[]=>g
 |g,.put n p v::P=>fv (fu g n p v) P
 |g,_::P=>fv g P
structure Wr(x:Fx)(sh:Sh)(N:Nat)(S:HS)(l:LS)(g:Vf)(a:AM)(P:List Sm):Prop where
 w:HW x N S
 pl:S.plan=P.map Sm.d
 pn:P.length<=2*N+20
 h:HA sh N S l g {a with f:=va l.lg g}
 fv:fv g P=a.f
 ph:∃ph,PlW a sh ph P/\(ph=1->(oh S)[1]?=ς (.int a.dn))/\(ph=2->(fh S)[1]?=ς (.int a.dn))
 rs:S.res=.non
def kept(x:Fx)(p:Nat):Bool:=(am x.kk x.kv (.inl (p:Int))).isSome
structure Sd(x:Fx)(sh:Sh)(N:Nat)(S:HS)(l:LS)(g:Vf)(a:AM):Prop where
 w:HW x N S
 pl:S.plan=[]
 h:HA sh N S l g a
 k:kept x a.pl=θ->l.lg=[]/\(fh S)[1]?=ς (.int a.dn)
variable{Q:η Sm}
section
variable{x:Fx}{sh:Sh}{N:Nat}{S S':HS}{l:LS}{g:Vf}{a:AM}{P:η Sm}
theorem HA.s(h:HA sh N S l g a)(O:S'.x=S.x)(e2:S'.fst=S.fst):HA sh N S' l g a:=⟨h.pl,h.dn,h.he,h.h0,h.sy,h.du,h.bx,h.bi,h.bn,by rw[O];exact h.lg,h.ln,h.nd,h.f,h.gn,by rw[e2];exact h.ft,h.on⟩
theorem HA.gg{g' f:Vf}(h:HA sh N S l g {a with f:=f})(O:∀n p,Vn (g' n p)):HA sh N S l g' {a with f:=va l.lg g'}:=⟨h.pl,h.dn,h.he,h.h0,h.sy,h.du,h.bx,h.bi,h.bn,h.lg,h.ln,h.nd,rfl,O,h.ft,h.on⟩
theorem HA.clr{f:Vf}(h:HA sh N S l g {a with f:=f}):HA sh N S {l with lg:=[]} g {a with f:=g}:=⟨h.pl,h.dn,h.he,h.h0,h.sy,h.du,h.bx,h.bi,h.bn,Ξ,Ξ,Ξ,rfl,h.gn,h.ft,h.on⟩
theorem HW.up(w:HW x N S):HW x (N+1) S:=⟨w.hx,w.h0,w.h1,w.ct,qa7 w.b0,qa7 w.b1,qa7 w.t0,qa7 w.t1,w.un⟩
theorem CC{n:Str}{p:Nat}{v:Int}(U:∀n p,Vn (g n p))(W:Vn v):∀n' O,Vn (fu g n p v n' O):=λn' O=>by unfold fu;split;exact W;exact U n' O
theorem CD(h:S.cnt=0\/S.cnt=1):(1-S.cnt=0\/1-S.cnt=1)/\(1-S.cnt=0↔¬ S.cnt=0):=by rcases h with h|h<;>simp[h]
theorem EJ(Y:(sh.map (·.1)).Nodup){s:Sm}(hs:∀a b c d,s≠.beg a b c d)(hN:N<1000000)(o:Wr x sh N S l g a (s::P)):∃S' g',F34 [.ref 1,.g s.d] (hl {S with plan:=P.map Sm.d} l (ac 16 sh) (aa sh g))=ς (.g .non,hl S' l (ac 16 sh) (aa sh g'))/\Wr x sh (N+1) S' l g' a P:=by
 have lt:∀{k:Nat},k<=N->k<qa5:=λ{k} h=>by rw[qb7];lia
 have pn:P.length<=2*(N+1)+20:=by have:=o.pn;simp at this;lia
 have w:=o.w;have⟨U,h1,h2,h3⟩:=o.ph;cases s with
 |beg a b c d=>exact absurd rfl (hs a b c d)
 |wake=>exact absurd h1 (by cases U<;>simp[PlW])
 |put n p v=>
  obtain rfl:U=2:=by rcases U with _|_|_|U<;>first|rfl|exact absurd h1 (by simp[PlW])
  have⟨⟨k,m,W,hp⟩,Z,hP⟩:=h1;exact⟨_,_,Cs (pb Y W hp),w.up |> λw=>⟨w.hx,w.h0,w.h1,w.ct,w.b0,w.b1,w.t0,w.t1,w.un⟩,rfl,pn,((o.h.up.gg (CC o.h.gn Z)).s rfl rfl),o.fv,⟨2,hP,λe=>(by cases e),λ_=>h3 rfl⟩,o.rs⟩
 |box n v=>
  obtain rfl:U=1:=by rcases U with _|_|U<;>first|rfl|exact absurd h1 (by simp[PlW])
  rcases w.ct with O|O
  .refine⟨_,g,uT (Cp (S:={S with plan:=P.map Sm.d}) O (lt w.b1)),⟨w.hx,w.h0,w.h1,w.ct,qa7 w.b0,by have:=w.b1;simp;lia,qa7 w.t0,qa7 w.t1,w.un⟩,rfl,pn,o.h.up.s rfl rfl,o.fv,⟨1,h1,λ_=>h2 rfl,λe=>(by cases e)⟩,o.rs⟩
  .refine⟨_,g,uT (Co (S:={S with plan:=P.map Sm.d}) O (lt w.b0)),⟨w.hx,w.h0,w.h1,w.ct,by have:=w.b0;simp;lia,qa7 w.b1,qa7 w.t0,qa7 w.t1,w.un⟩,rfl,pn,o.h.up.s rfl rfl,o.fv,⟨1,h1,λ_=>h2 rfl,λe=>(by cases e)⟩,o.rs⟩
 |log n p v=>
  obtain rfl:U=1:=by rcases U with _|_|U<;>first|rfl|exact absurd h1 (by simp[PlW])
  rcases w.ct with O|O
  .refine⟨_,g,uU (Cr (S:={S with plan:=P.map Sm.d}) O (lt w.t1)),⟨w.hx,w.h0,w.h1,w.ct,qa7 w.b0,qa7 w.b1,qa7 w.t0,by have:=w.t1;simp;lia,w.un⟩,rfl,pn,o.h.up.s rfl rfl,o.fv,⟨1,h1,λ_=>h2 rfl,λe=>(by cases e)⟩,o.rs⟩
  .refine⟨_,g,uU (Cq (S:={S with plan:=P.map Sm.d}) O (lt w.t0)),⟨w.hx,w.h0,w.h1,w.ct,qa7 w.b0,qa7 w.b1,by have:=w.t0;simp;lia,qa7 w.t1,w.un⟩,rfl,pn,o.h.up.s rfl rfl,o.fv,⟨1,h1,λ_=>h2 rfl,λe=>(by cases e)⟩,o.rs⟩
 |trn=>
  obtain rfl:U=1:=by rcases U with _|_|U<;>first|rfl|exact absurd h1 (by simp[PlW])
  refine⟨_,g,Ct,⟨w.hx,w.h0,w.h1,(CD w.ct).1,qa7 w.b0,qa7 w.b1,qa7 w.t0,qa7 w.t1,w.un⟩,rfl,pn,o.h.up.s rfl rfl,o.fv,⟨2,h1,λe=>(by cases e),λ_=>?_⟩,o.rs⟩;have:=h2 rfl;unfold oh at this;unfold fh;rcases w.ct with O|O<;>(rwa[O]at this ⊢;exact this)
theorem n0:∀{P:η Sm}{g:Vf},fv g (P++Q)=fv (fv g P) Q
 |[],_=>rfl
 |s::P,g=>by cases s<;>exact n0 (P:=P)
theorem CF{ks:η Bx}:fv g (ks.map λk=>Sm.box k.1 k.2)=g:=by
 induction ks with
 |nil=>rfl
 |cons k ks O=>exact O
theorem yn:fv g (nO ts)=g:=by
 induction ts with
 |nil=>rfl
 |cons k ks O=>exact O
theorem pq:∀{ts:η Tn}{g:Vf},((lgK ts).map (·.1)).Nodup->fv g (eU ts)=va (lgK ts) g
 |[],_,_=>rfl
 |t::ts,g,h=>by
  have h':=qc8.mp h;show fv (fu g t.1.1 t.1.2 t.2) (eU ts)=_;rw[pq h'.2];funext n p;show lv (lgK ts) (fu g t.1.1 t.1.2 t.2 n p) _=lv (lgK (t::ts)) (g n p) _;unfold lv fu;show _=iv _ (am (([qj1 t.1.1,qj6 (t.1.2:Int)]:η Key)::(lgK ts).map (·.1)) (Dt.int t.2::(lgK ts).map (·.2)) _);rwa[am];by_cases e:n=t.1.1/\p=t.1.2
  .rw[if_pos e,if_pos (by rw[e.1,e.2])];cases q:am ((lgK ts).map (·.1)) ((lgK ts).map (·.2)) [qj1 n,qj6 (p:Int)]with
   |none=>rfl
   |some d=>rw[e.1,e.2]at q;exact absurd (qb8.mpr ⟨_,aJ q,rfl⟩) h'.1
  .rw[if_neg e,if_neg (by rwa[qm4,qo8,qj6.injEq,and_true];intro w;exact e ⟨w.1.symm,Θ⟩)]
theorem pr:∀{ts:η Tn},(∀t∈ts,Vp sh t.1.1 t.1.2/\Vn t.2)->PlW a sh 2 (eU ts)
 |[],_=>trivial
 |t::ts,h=>⟨(h t (.head _)).1,(h t (.head _)).2,pr λu O=>h u (.tail _ O)⟩
theorem px(O:PlW a sh 1 Q):∀{ts:η Tn},PlW a sh 1 (nO ts++Q)
 |[]=>O
 |_::ts=>px O (ts:=ts)
theorem mw(O:PlW a sh 1 Q):∀{ks:η Bx},PlW a sh 1 ((ks.map λk=>.box k.1 k.2)++Q)
 |[]=>O
 |_::ks=>mw O (ks:=ks)
end
structure XR(x:Fx)(R:List Rw)(sh:Sh):Prop where
 X:XOk x sh
 rows:x.rows=R.map Rw.d
 onw:∀(i:Nat) r,R[i]?=ς r->x.onw[i]?=ς (mn i r)
 rok:∀r∈R,vb x sh r
 lead:∀(i:Nat) r p,R[i]?=ς r->jQ i r p->∃j:Nat,p=j/\j<R.length
 kv:∀k d,am x.kk x.kv k=ς d->∃bs:List Str,d=.t (bs.map .str)/\bs.Nodup/\bs.length<=6
def To(sh:Sh)(F:Fd)(O:η CV)(cs:CH)(Q:HS->LS->Vf->Prop):Prop:=∃S l g cs' σ,F O cs=ς (.g .non,cs')/\cs.length<=cs'.length/\At σ (hl S l (ac 16 sh) (aa sh g)) cs'/\σ 0=0/\Q S l g
def Hs(x:Fx)(sh:Sh)(N:Nat)(a:AM)(S:HS)(l:LS)(g:Vf):Prop:=(Sd x sh N S l g a/\S.res=.non)\/∃P,P≠[]/\Wr x sh N S l g a P
section
variable{x:Fx}{R:η Rw}{sh:Sh}{N:Nat}{S S':HS}{l l':LS}{g g':Vf}{a:AM}{P:η Sm}{Q:HS->LS->Vf->Prop}
theorem yo{s:Sm}(h:s≠.wake):∃k r,s.d=.t (.str k::r)/\(k=qd0 "wake")=False:=by cases s<;>first|exact absurd rfl h|exact⟨_,_,rfl,by simp[ofS]⟩
theorem EK:(hl S l (ac 16 sh) (aa sh g)).length<=(hl S' l' (ac 16 sh) (aa sh g')).length:=by simp[hb,bI]
theorem To.here{F:Fd}{O:η CV}(h:F O (hl S l (ac 16 sh) (aa sh g))=ς (.g .non,hl S' l' (ac 16 sh) (aa sh g')))(o:Q S' l' g'):To sh F O (hl S l (ac 16 sh) (aa sh g)) Q:=⟨S',l',g',_,_,h,EK,.same,rfl,o⟩
theorem Wr.done(o:Wr x sh N S l g a []):Sd x sh N S {l with lg:=[]} g a:=by
 have⟨O,h1,h2,U⟩:=o.ph;obtain rfl:O=2:=by rcases O with _|_|_|O<;>first|rfl|exact absurd h1 (by simp[PlW])
 have e:g=a.f:=o.fv;have:=o.h.clr;rw[e]at this;rw[e];exact⟨o.w,o.pl,this,λ_=>⟨rfl,U rfl⟩⟩
theorem vq(hn:(sh.map (·.1)).Nodup){s:Sm}(hN:N<400000)(o:Wr x sh N S l g a (s::P)):To sh F35 [.ref 0] (hl S l (ac 16 sh) (aa sh g)) (Hs x sh (N+1) a):=by
 have W:S.plan.length<=1000000:=by have:=o.pn;rw[o.pl,qa2];lia
 have⟨Z,h1,h2,h3⟩:=o.ph;have hw:s≠.wake:=λe=>by rw[e]at h1;exact absurd h1 (by cases Z<;>simp[PlW])
 have w:=o.w;have⟨k,r,hd,hk⟩:=yo hw;by_cases hb:∃a b c d,s=.beg a b c d
 .have⟨i,b,c,d,rfl⟩:=hb;obtain rfl:Z=0:=by rcases Z with _|Z<;>first|rfl|exact absurd h1 (by simp[PlW])
  have⟨rfl,h1⟩:=h1;obtain⟨q,P',rfl⟩:∃q P',P=q::P':=by cases P with|nil=>exact absurd h1 (by simp[PlW])|cons q P'=>exact⟨q,P',rfl⟩
  have pn:(q::P').length<=2*(N+1)+20:=by have:=o.pn;simp at this ⊢;lia
  rcases w.ct with O|O
  .have U:=yf (S:={S with plan:=(q::P').map Sm.d}) (lv:=.ref 13) (rf:=ac 16 sh) (tl:=az (ς l) (aa sh g)) O (a:=.int i) (b:=.int a.dn) (c:=.int c) (d:=.int d);have Y:=dZ (S:=S) (lv:=.ref 13) (rf:=ac 16 sh) (tl:=az (ς l) (aa sh g)) (S':={S with plan:=(q::P').map Sm.d,h1:=[.int i,.int a.dn,.int c,.int d]}) (q:=q.d) (P:=P'.map Sm.d) (by rw[o.pl];rfl) (by simp[ofS]) W (uS U) rfl rfl;refine⟨{S with plan:=(q::P').map Sm.d,h1:=[.int i,.int a.dn,.int c,.int d],pb1:=[],pt1:=[]},l,g,_,_,Y,?_,nZ (lo:=ς l) (S:={S with plan:=(q::P').map Sm.d,h1:=[.int i,.int a.dn,.int c,.int d]}) aT,rfl,.inr ⟨q::P',Ξ,⟨w.hx,w.h0,⟨_,_,_,_,rfl⟩,w.ct,qa7 w.b0,qg4 _,qa7 w.t0,qg4 _,w.un⟩,rfl,pn,o.h.up.s rfl rfl,o.fv,⟨1,h1,λ_=>?_,λe=>(by cases e)⟩,o.rs⟩⟩
   .simp[hbN,hb,az]
   .unfold oh;rw[if_pos O];rfl
  .have U:=ye (S:={S with plan:=(q::P').map Sm.d}) (lv:=.ref 13) (rf:=ac 16 sh) (tl:=az (ς l) (aa sh g)) O (a:=.int i) (b:=.int a.dn) (c:=.int c) (d:=.int d);have Y:=dZ (S:=S) (lv:=.ref 13) (rf:=ac 16 sh) (tl:=az (ς l) (aa sh g)) (S':={S with plan:=(q::P').map Sm.d,h0:=[.int i,.int a.dn,.int c,.int d]}) (q:=q.d) (P:=P'.map Sm.d) (by rw[o.pl];rfl) (by simp[ofS]) W (uS U) rfl rfl;refine⟨{S with plan:=(q::P').map Sm.d,h0:=[.int i,.int a.dn,.int c,.int d],pb0:=[],pt0:=[]},l,g,_,_,Y,?_,nY (lo:=ς l) (S:={S with plan:=(q::P').map Sm.d,h0:=[.int i,.int a.dn,.int c,.int d]}) aT,rfl,.inr ⟨q::P',Ξ,⟨w.hx,⟨_,_,_,_,rfl⟩,w.h1,w.ct,qg4 _,qa7 w.b1,qg4 _,qa7 w.t1,w.un⟩,rfl,pn,o.h.up.s rfl rfl,o.fv,⟨1,h1,λ_=>?_,λe=>(by cases e)⟩,o.rs⟩⟩
   .simp[hbN,hb,az]
   .unfold oh;rw[if_neg (by show ¬ S.cnt=0;rw[O];decide)];rfl
 .have hb':∀a b c d,s≠.beg a b c d:=λa b c d e=>hb ⟨a,b,c,d,e⟩
  have⟨S',g',h2,o'⟩:=EJ hn hb' Θ o;rw[hd]at h2;cases P with
  |cons q P'=>have Y:=dZ (S:=S) (lv:=.ref 13) (rf:=ac 16 sh) (tl:=az (ς l) (aa sh g)) (S':=S') (ch':=hl S' l (ac 16 sh) (aa sh g')) (q:=q.d) (P:=P'.map Sm.d) (by rw[o.pl,qa3,hd];rfl) hk W h2 rfl (by show ς (dl S'.plan)=_;rw[o'.pl];rfl);exact .here Y (.inr ⟨_,Ξ,o'⟩)
  |nil=>have Y:=nQ (S:=S) (rf:=ac 16 sh) (tl:=az (ς l) (aa sh g)) (S':=S') (bx:=.dK (dp l.bx)) (lg:=dp l.lg) (ch':=aa sh g') (by rw[o.pl,qa3,hd];rfl) hk h2 o'.pl;exact .here (l':={l with lg:=[]}) Y (.inl ⟨o'.done,o'.rs⟩)
theorem vt{n:Int}:goA (doA x {a with dn:=n} r) r=goA a r:=by cases r<;>rfl
theorem vv:(doA x a r).pl=a.pl:=by cases r<;>rfl
theorem HA.dn1(h:HA sh N S l g a):HA sh N S {l with dn:=l.dn+1} g {a with dn:=a.dn+1}:=⟨h.pl,by show l.dn+1=_;rw[h.dn],h.he,h.h0,h.sy,h.du,h.bx,h.bi,h.bn,h.lg,h.ln,h.nd,h.f,h.gn,h.ft,h.on⟩
theorem HA.plc(h:HA sh N S l g a):HA sh N S {l with pl:=j} g {a with pl:=j}:=⟨rfl,h.dn,h.he,h.h0,h.sy,h.du,h.bx,h.bi,h.bn,h.lg,h.ln,h.nd,h.f,h.gn,h.ft,h.on⟩
theorem CG (X:XR x R sh) (hN:N<400000) (o:Sd x sh N S l g a) (hr:S.res=.non) {r:Rw} (hR:R[a.pl]?=ς r) :
  (∀p,r=.fin p->F50 [.ref 0] (hl S l (ac 16 sh) (aa sh g))=ς (.g .non,hl {S with res:=.int (wv a.b p)} {l with dn:=l.dn+1} (ac 16 sh) (aa sh g)))∧
  ((∀p,r≠.fin p)->(∃j:Nat,goA a r=j/\j<R.length)/\To sh F50 [.ref 0] (hl S l (ac 16 sh) (aa sh g)) (Hs x sh (N+1) (stA x a r))):=by
 have Y:ixV (hl S l (ac 16 sh) (aa sh g)) (.g (.t S.x.rows)) (.int l.pl)=ς (.g r.d):=by rw[o.w.hx,X.rows];exact(dB o.h.pl (by rw[qa9,hR];rfl)).2
 have hro:=X.rok r (qa4 hR);refine⟨λp e=>?_,λhf'=>?_⟩
 .subst e;have h1:=o.h.dn1.wa p (rf:=ac 16 sh) (tl:=aa sh g);have hg:=yd (S:=S) (lv:=.ref 13) (rf:=ac 16 sh) (tl:=az (ς {l with dn:=l.dn+1}) (aa sh g)) (v:=.int (wv a.b p));exact xR (.c 0 Y (.v 0 h1 (.v 0 hg .nil)))
 .have hp:=ve (a:=a) r hf';have⟨j,hj,hjR⟩:=X.lead a.pl r _ hR hp;refine⟨⟨j,hj,hjR⟩,?_⟩;have hxr:vb S.x sh r:=by rw[o.w.hx];exact hro
  have hXX:XOk S.x sh:=by rw[o.w.hx];exact X.X
  have⟨O,g1,d1,H1⟩:=CA r hf' hXX hxr o.h.dn1 (by rw[qb7];lia);obtain⟨W,ha1⟩:∃W,W=doA S.x {a with dn:=a.dn+1} r:=⟨_,rfl⟩;rw[<- ha1]at d1 H1;have w:=o.w;have pl1:W.pl=a.pl:=by rw[ha1,vv]
  have d2:=behind (tl:=aa sh g1) r hf' (by show S.x.onw[W.pl]?=_;rw[w.hx,pl1];exact X.onw a.pl r hR) H1;rw[show goA W r=j by rw[ha1,vt,hj]]at d2;have est:stA x a r={W with pl:=j}:=by unfold stA;rw[hj,<- w.hx,<- ha1];rfl
  rw[est];have W1:HW x (N+1) {S with fst:=aS W.out}:=⟨w.hx,w.h0,w.h1,w.ct,qa7 w.b0,qa7 w.b1,qa7 w.t0,qa7 w.t1,w.un⟩;obtain⟨U,hS1⟩:∃U:HS,U={S with fst:=aS W.out}:=⟨_,rfl⟩;have hx1:U.x=x:=by rw[hS1];exact w.hx
  have hp1:U.plan=[]:=by rw[hS1];exact o.pl
  have hr1:U.res=.non:=by rw[hS1];exact hr
  rw[<- hS1]at d1 d2 H1 W1;have hk0:=zz (ch:=hl S {l with dn:=l.dn+1} (ac 16 sh) (aa sh g)) (r:=r);have ne1:=zA hf';have H2:=H1.plc (j:=j);cases q:am U.x.kk U.x.kv (qj6 (j:Int))with
  |none=>
   have hin:oIn.g (.int j) (.dct U.x.kk U.x.kv)=ς (.f (.bl ξ)):=by simp[oIn,orO,gIn,inD,qY,bW,cN,q]
   refine .here (S':=U) (l':={O with pl:=j}) (g':=g1) ?_ (.inl ⟨⟨W1,hp1,H2,λe=>?_⟩,hr1⟩)
   .exact xR (.c 0 Y (.c 0 hk0 (.t 0 ne1 (.v 0 d1 (.v 0 d2 (.t 0 hin .nil))))))
   .unfold kept at e;rw[<- hx1,q]at e;cases e
  |some d=>
   have⟨bs,rfl,hnd,h6⟩:=X.kv (.inl j) d (by rw[<- hx1];exact q);have hin:oIn.g (.int j) (.dct U.x.kk U.x.kv)=ς (.f (.bl θ)):=by simp[oIn,orO,gIn,inD,qY,bW,cN,q]
   have hix:ixV (hl U {O with pl:=j} (ac 16 sh) (aa sh g1)) (.g (.dct U.x.kk U.x.kv)) (.int j)=ς (.g (.t (bs.map .str))):=by show(ixD _ _).map CV.g=_;simp[ixD,bW,cN,q]
   have⟨ts,t1,t2⟩:=vg H2.lg;have w5:=yk (tl:=aa sh g1) (bs:=bs) H2 t1 Θ;have hln:ts.length<=N+1:=by have:=H2.ln;rw[t1]at this;simpa[lgK] using this
   obtain⟨PP,Z⟩:∃PP,PP=dI j O.dn O.he O.sy (bs.map λs=>(s,W.b s)) ts:=⟨_,rfl⟩;have w5':F49 [.ref 13,.g (.t (bs.map .str))] (hl U {O with pl:=j} (ac 16 sh) (aa sh g1))=ς (.ref ((aa sh g1).length+16),hl U {O with pl:=j} (ac 16 sh) (aa sh g1++[dl (PP.map Sm.d)])):=by rw[Z];exact w5
   have ef:W.f=va O.lg g1:=H2.f.symm;refine⟨{U with plan:=PP.map Sm.d},{O with pl:=j},g1,(hl U {O with pl:=j} (ac 16 sh) (aa sh g1++[dl (PP.map Sm.d)])).set 0 (hO U (.ref 13) (.ref ((aa sh g1).length+16))),_,?_,?_,ym aT,rfl,.inr ⟨PP,by rw[Z];simp[dI],?_⟩⟩
   .exact xR (.c 0 Y (.c 0 hk0 (.t 0 ne1 (.v 0 d1 (.v 0 d2 (.t 0 hin (.c 0 hix (.v 0 w5' .nil))))))))
   .simp[hb,bI]
   .refine⟨⟨W1.hx,W1.h0,W1.h1,W1.ct,W1.b0,W1.b1,W1.t0,W1.t1,W1.un⟩,rfl,?_,(H2.gg (f:=W.f) (a:={W with pl:=j}) H2.gn).s rfl rfl,?_,⟨0,?_,λe=>(by cases e),λe=>(by cases e)⟩,hr1⟩
    .rw[Z];simp[dI,nO,eU];lia
    .show fv g1 PP=W.f;rw[Z,ef];have:dI j O.dn O.he O.sy (bs.map λs=>(s,W.b s)) ts=Sm.beg j O.dn O.he O.sy::(((bs.map λs=>((s,W.b s):Bx)).map λk=>.box k.1 k.2)++(nO ts++(.trn::eU ts))):=by simp[dI]
     rw[this];show fv g1 (_++_)=_;rw[n0,CF,n0,yn];show fv g1 (eU ts)=_;have t1':O.lg=lgK ts:=t1;rw[t1',pq (by rw[<- t1'];exact H2.nd)]
    .rw[Z];have:dI j O.dn O.he O.sy (bs.map λs=>(s,W.b s)) ts=Sm.beg j O.dn O.he O.sy::(((bs.map λs=>((s,W.b s):Bx)).map λk=>.box k.1 k.2)++(nO ts++(.trn::eU ts))):=by simp[dI]
     rw[this];exact⟨H1.dn,mw (px (show PlW _ sh 2 (eU ts)from pr λt ht=>⟨(t2 t ht).1.1,(t2 t ht).2⟩))⟩
end
section
variable{x:Fx}{R:η Rw}{sh:Sh}{N:Nat}{S S':HS}{l l':LS}{g g':Vf}{a:AM}{P:η Sm}{Q:HS->LS->Vf->Prop}{ρ:Nat->Nat}{b:CH}
abbrev hz(sh:Sh)(S:HS)(l:LS)(g:Vf):CH:=hl S l (ac 16 sh) (aa sh g)
theorem vA:Cl (hz sh S l g):=pj (lo:=ς l) aT
theorem vB:0<(hz sh S l g).length:=by show 0<_+1;lia
theorem CI:(CV.ref 0::ds.map .g).all (clV (hz sh S l g).length)=θ:=by have:=vB (sh:=sh) (S:=S) (l:=l) (g:=g);simp[clV];lia
theorem To.mv{F:Fd}(Y:TrD F)(t:To sh F (.ref 0::ds.map .g) (hz sh S l g) Q)(h:At ρ (hz sh S l g) b):∃S' l' g' ρ' b',Q S' l' g'/\F (.ref (ρ 0)::ds.map .g) b=ς (.g .non,b')/\Mv ρ (hz sh S l g) b ρ' (hz sh S' l' g') b':=by
 have⟨S',l',g',cs',σ,h1,h2,W,h4,U⟩:=t;have⟨ρ',b',O,k2⟩:=(Rn.of Y vA CI h1 h2 W h4 vB).mv h;refine⟨S',l',g',ρ',b',U,?_,k2⟩;have e:rnA ρ (.ref 0::ds.map .g)=.ref (ρ 0)::ds.map .g:=by simp[rn,qb1]
 rw[e]at O;exact O
theorem At.pur{F:Fd}{d:Dt}(h:At ρ (hz sh S l g) b)(U:TrD F)(O:F (.ref 0::ds.map .g) (hz sh S l g)=ς (.g d,hz sh S l g)):F (.ref (ρ 0)::ds.map .g) b=ς (.g d,b):=by
 have:=h.pure U vA CI O;have e:rnA ρ (.ref 0::ds.map .g)=.ref (ρ 0)::ds.map .g:=by simp[rn,qb1]
 rw[e]at this;exact this
theorem At.grow{F:Fd}{ds L:η Dt}(h:At ρ (hz sh S l g) b)(Z:TrD F)(hr:F (.ref 0::ds.map .g) (hz sh S l g)=ς (.ref (hz sh S l g).length,hz sh S l g++[dl L])):F (.ref (ρ 0)::ds.map .g) b=ς (.ref b.length,b++[dl L]):=by
 have hc:=vA (sh:=sh) (S:=S) (l:=l) (g:=g);have Y:=CI (sh:=sh) (S:=S) (l:=l) (g:=g) (ds:=ds);generalize hz sh S l g=cs at*
 have⟨b',h1,E,K⟩:=h.go Z hc Y hr;have e:rnA ρ (.ref 0::ds.map .g)=.ref (ρ 0)::ds.map .g:=by simp[rn,qb1]
 rw[e]at h1;have O:∀i,cs.length<=i->hat ρ cs.length b.length i=b.length+(i-cs.length):=λi hi=>if_neg Θ
 have W:=E.nw 0;rwa[qc4,qc2,qf9]at W;rw[O _ Θ]at W
 have:b'=b++[dl L]:=by
  refine qk6 λj=>?_
  by_cases U:∃i,hat ρ cs.length b.length i=j
  .have⟨i,rfl⟩:=U;rcases qy3 i cs.length with hi|hi|hi
   .rw[E.get (by rw[gL hi];exact gQ hi)];have:=(h.em hc).get (gQ hi);rw[gL (aj this),this]
   .subst hi;rw[E.get (o:=dl L) Ξ,O _ (qs5 _),cM];simp
   .rw[O _ Θ,qd6 Θ,qd6 (by simp;lia)]
  .rw[K j λi e=>U ⟨i,e⟩];rcases qj9 j b.length with h|h
   .rw[gL h]
   .exact absurd ⟨cs.length+(j-b.length),by rw[O _ Θ];lia⟩ U
 rw[this]at h1;rw[h1];rwa[rn];rw[O _ (nL _),zf5,zc4]
theorem bG(h:At ρ (hz sh S l g) b):∃l,b[ρ 0]?=ς (.ins 3 l):=⟨_,h.get (i:=0) rfl⟩
theorem zB{d:Dt}{L P:η Dt}(h:P=d::L):oGt.g (.int P.length) (.int 0)=ς (.f (.bl θ)):=by rw[h];show ς (T.f (.bl (decide _)))=_;rw[decide_eq_true Ξ]
theorem vC(h:S.plan=[]):oGt.g (.int S.plan.length) (.int 0)=ς (.f (.bl ξ)):=by rw[h];rfl
theorem CJ(Y:(sh.map (·.1)).Nodup)(W:N<400000)(o:Wr x sh N S l g a P)(U:P≠[]):To sh F51 [.ref 0] (hz sh S l g) (Hs x sh (N+1) a):=by
 have h1:=gJ (S:=S) (lv:=.ref 13) (rf:=ac 16 sh) (tl:=az (ς l) (aa sh g)) o.rs;rwa[az]at h1;cases P with
 |nil=>exact absurd rfl U
 |cons s P=>have⟨S',l',g',cs',σ,g1,g2,O,g4,Z⟩:=vq Y W o;refine⟨S',l',g',cs',σ,?_,g2,O,g4,Z⟩;exact xR (.v 0 h1 (.d 0 (vl (ch:=hz sh S l g) (i:=3) (L:=S.plan) rfl) (.t 1 (zB (o.pl.trans rfl)) (.v 0 g1 .nil))))
theorem CK (X:XR x R sh) (hN:N<400000) (o:Sd x sh N S l g a) (O:S.res=.non) (W:R[a.pl]?=ς r) :
  (∀p,r=.fin p->F51 [.ref 0] (hz sh S l g)=ς (.g .non,hz sh {S with res:=.int (wv a.b p)} {l with dn:=l.dn+1} g))∧
  ((∀p,r≠.fin p)->(∃j:Nat,goA a r=j/\j<R.length)/\To sh F51 [.ref 0] (hz sh S l g) (Hs x sh (N+1) (stA x a r))):=by
 have h1:=gJ (S:=S) (lv:=.ref 13) (rf:=ac 16 sh) (tl:=az (ς l) (aa sh g)) O;rwa[az]at h1;have hp:=o.pl;have⟨U,k2⟩:=CG X hN o O W;refine⟨λp e=>?_,λe=>?_⟩
 .have g1:=U p e;exact xR (.v 0 h1 (.d 0 (vl (ch:=hz sh S l g) (i:=3) (L:=S.plan) rfl) (.t 1 (vC hp) (.v 0 g1 .nil))))
 .have⟨Z,S',l',g',cs',σ,g1,g2,Y,g4,g5⟩:=k2 e;refine⟨Z,S',l',g',cs',σ,?_,g2,Y,g4,g5⟩;exact xR (.v 0 h1 (.d 0 (vl (ch:=hz sh S l g) (i:=3) (L:=S.plan) rfl) (.t 1 (vC hp) (.v 0 g1 .nil))))
theorem rj{i:Int}(O:S.res=.int i):F51 [.ref 0] (hz sh S l g)=ς (.g .non,hz sh S l g):=by have h1:=kZ (S:=S) (lv:=.ref 13) (rf:=ac 16 sh) (tl:=az (ς l) (aa sh g)) O;rwa[az]at h1;exact xR (.v 0 h1 .nil)
theorem rA{i d:Int}(O:S.res=.int i):F85 [.ref 0,I d] (hz sh S l g)=ς (.g .non,hz sh S l g):=by have h1:=kZ (S:=S) (lv:=.ref 13) (rf:=ac 16 sh) (tl:=az (ς l) (aa sh g)) O;rwa[az]at h1;exact xR (.v 0 h1 .nil)
theorem ld(O:S.res=.non):F25 [.ref 0] (hz sh S l g)=ς (.g (.bl ξ),hz sh S l g):=gJ O
theorem vD{i:Int}(O:S.res=.int i):F25 [.ref 0] (hz sh S l g)=ς (.g (.bl θ),hz sh S l g):=kZ O
theorem dm(o:Sd x sh N S l g a)(O:S.res=.non):F26 [.ref 0] (hz sh S l g)=ς (I a.pl,hz sh S l g):=by have h1:=ld (sh:=sh) (l:=l) (g:=g) O;rw[<- o.h.pl];exact xR (.v 0 h1 (.d 0 (vl (ch:=hz sh S l g) (i:=3) (L:=S.plan) rfl) (.t 1 (vC o.pl) .nil)))
theorem vE(o:Wr x sh N S l g a P)(O:P≠[]):F26 [.ref 0] (hz sh S l g)=ς (.g .non,hz sh S l g):=by
 have h1:=ld (sh:=sh) (l:=l) (g:=g) o.rs;cases P with
 |nil=>exact absurd rfl O
 |cons s P=>exact xR (.v 0 h1 (.d 0 (vl (ch:=hz sh S l g) (i:=3) (L:=S.plan) rfl) (.t 1 (zB (o.pl.trans rfl)) .nil)))
theorem mx{i:Int}(O:S.res=.int i):F26 [.ref 0] (hz sh S l g)=ς (.g .non,hz sh S l g):=by have h1:=vD (sh:=sh) (l:=l) (g:=g) O;exact xR (.v 0 h1 .nil)
theorem yp(o:Sd x sh N S l g a)(O:S.res=.non):F55 [.ref 0] (hz sh S l g)=ς (I a.dn,hz sh S l g):=by have h1:=dm o O;rw[<- o.h.dn];exact xR (.v 0 h1 .nil)
theorem CL:∃L,pgD S=fh S++L:=by unfold pgD fh;split<;>exact⟨_,rfl⟩
theorem HW.page(w:HW x N S):∃p d c s:Int,∃L,pgD S=.int p::.int d::.int c::.int s::L/\fh S=[.int p,.int d,.int c,.int s]:=by
 have⟨L,e⟩:=CL (S:=S);have:IH (fh S):=by unfold fh;split;exact w.h0;exact w.h1
 have⟨p,d,c,s,q⟩:=this;exact⟨p,d,c,s,L,by rw[e,q];rfl,q⟩
theorem IH.len{h:η Dt}(q:IH h):h.length=4:=by have⟨p,d,c,s,rfl⟩:=q;rfl
theorem zC(w:HW x N S):F18 [.ref 0,I S.cnt] (hz sh S l g)=ς (.g (.t (pgD S)),hz sh S l g):=o9 w.h0.len w.h1.len w.ct
theorem CM:F20 [.ref 0] (hz sh S l g)=ς (I S.cnt,hz sh S l g):=rfl
theorem ix1{d:Dt}{L:η Dt}:ixV ch (.g (.t (d::e::L))) (.int 1)=ς (.g e):=(dB (i:=1) rfl rfl).2
theorem yq(w:HW x N S){i:Int}(U:S.res=.int i):∃d:Int,(fh S)[1]?=ς (.int d)/\F55 [.ref 0] (hz sh S l g)=ς (I d,hz sh S l g):=by have h1:=mx (sh:=sh) (l:=l) (g:=g) U;have O:=zC (sh:=sh) (l:=l) (g:=g) w;have⟨p,d,c,s,L,e,q⟩:=w.page;rw[e]at O;refine⟨d,by rw[q];rfl,?_⟩;exact xR (.v 0 h1 (.v 1 O (.c 0 (ix1 (ch:=hz sh S l g) (d:=.int p) (e:=.int d) (L:=.int c::.int s::L)) .nil)))
theorem EL(o:Sd x sh N S l g a)(O:S.res=.non)(n:Str):F58 [.ref 0,.g (.str n)] (hz sh S l g)=ς (I (a.b n),hz sh S l g):=by have h1:=dm o O;have h2:=o.h.wa (.inr n) (rf:=ac 16 sh) (tl:=aa sh g);exact xR (.v 0 h1 (.v 0 h2 .nil))
variable{n:Str}{k m:Nat}
theorem vF(Y:(sh.map (·.1)).Nodup)(O:sh[k]?=ς (n,m))(Z:0<m):F61 [.ref 0,.g (.str n)] (hz sh S l g)=ς (I (g n 0),hz sh S l g):=by
 have h1:=bF (o:=16) Y O;have h2:=aM (g:=g) O
 obtain⟨L,U⟩:∃L,row g (n,m)=.int (g n 0)::L:=by
  cases m with
  |zero=>lia
  |succ m=>exact⟨_,by rwa[row,za3,qa3];rfl⟩
 rw[U]at h2
 have W:F60 [.ref 1,.g (.str n)] (hz sh S l g)=ς (I (g n 0),hz sh S l g):=by exact xR (.c 0 (show ixV (hz sh S l g) (.ref 4) (.str n)=ς (.ref (k+16))from h1) (.c 0 (ixL (ch:=hz sh S l g) (i:=k+16) (p:=0) h2 rfl) .nil))
 exact xR (.v 0 W .nil)
theorem yr(W:(sh.map (·.1)).Nodup)(O:sh[k]?=ς (n,m)):F70 [.ref 0,.g (.str n)] (hz sh S l g)=ς (.g (.e (row g (n,m))),hz sh S l g):=by
 have h1:=bF (o:=16) W O;have h2:=aM (g:=g) O;generalize row g (n,m)=L at h2 ⊢
 have U:F69 [.ref 1,.g (.str n)] (hz sh S l g)=ς (.g (.e L),hz sh S l g):=by exact xR (.c 0 (show ixV (hz sh S l g) (.ref 4) (.str n)=ς (.ref (k+16))from h1) (.d 0 (vl (ch:=hz sh S l g) (i:=k+16) (L:=L) h2) .nil))
 exact xR (.v 0 U .nil)
theorem yt(W:(sh.map (·.1)).Nodup)(O:sh[k]?=ς (n,m)):F64 [.ref 0,.g (.str n)] (hz sh S l g)=ς (.ref (hz sh S l g).length,hz sh S l g++[dl (row g (n,m))]):=by
 have h1:=bF (o:=16) W O;have h2:=aM (g:=g) O;generalize row g (n,m)=L at h2 ⊢
 have U:F63 [.ref 1,.g (.str n)] (hz sh S l g)=ς (.ref (hz sh S l g).length,hz sh S l g++[dl L]):=by exact xR (.c 0 (show ixV (hz sh S l g) (.ref 4) (.str n)=ς (.ref (k+16))from h1) (.d 0 (vl (ch:=hz sh S l g) (i:=k+16) (L:=L) h2) .nil))
 exact xR (.v 0 U .nil)
end
theorem xRt{e:E}{g:η An}{L:η Prop}{r:Bool×CH}(a:Oa g L)(h:xT tb e δ ch (g,[])=ς (r,([],L.reverse)):=by kernel_rfl):evT tb e δ ch=ς r:=((eT tb e).2.1 _ _ _ _ _ h (kY a.all trivial)).1
def whC:S->E
 |.sq (.wh _ c _) _=>c
 |.sq _ b=>whC b
 |_=>.nil
theorem zD{i:Nat}{d:Dt}(h:dF δ i=ς (.e l))(hl:l.length<qa5):sAs i (λ_ ch=>ς (.g d,ch)) δ ch=ς (.nx (δ.set i (ς (.own θ (.e (l++[d]))))) ch):=by unfold sAs;rw[h];exact if_pos hl
theorem vG{α:Type}{f:α->Dt}{l:η α}:bLen.g [.e (l.map f)]=ς (.f (.int l.length)):=by simp[bLen,fL]
section
variable{sh:Sh}{S:HS}{l:LS}{g:Vf}{o:η Int}{ch:CH}
theorem vw8(O:ch[8]?=ς (.dK (dp S.fst))):vw ch (.ref 8)=ς (.dct (S.fst.map (·.1)) (S.fst.map (·.2))):=by show(ch[8]?).bind _=_;rw[O];show(dats ((dp S.fst).map (·.2))).map (Dt.dct ((dp S.fst).map (·.1)))=_;rw[dA,di];rfl
theorem in8(hf:S.fst=aS o)(k:Nat):oIn.g (.int k) (.dct (S.fst.map (·.1)) (S.fst.map (·.2)))=ς (.f (.bl (o[k]?.map Dt.int).isSome)):=by rw[<- iI,<- hf];rfl
theorem ix8(hf:S.fst=aS o)(O:ch[8]?=ς (.dK (dp S.fst))){k:Nat}{v:Int}(h:o[k]?=ς v):ixV ch (.ref 8) (.int k)=ς (I v):=by show(ch[8]?).bind _=_;rw[O];show lkC (dp S.fst) _=_;rw[iH,hf,iI,h];rfl
theorem pz(hf:S.fst=aS o)(h2:ch[2]?=ς (.ins 0 [.ref 8,.g (.bl S.unl)]))(O:ch[8]?=ς (.dK (dp S.fst)))(U:o.length<1000000):∀{o2 o1:η Int}{f:Nat},o=o1++o2->o2.length<f->whZ (evT (ay gc t80) (whC d80.b)) (evS (ay gc t80) (foB d80.b)) f [ς (.ref 2),ς (.own θ (.e (o1.map .int)))] ch=ς (.nx [ς (.ref 2),ς (.own θ (.e (o.map .int)))] ch)
 |[],o1,f+1,e,_=>by rw[qf6]at e;subst e;have q:=in8 hf o.length;rw[qd6 (nL _)]at q;unfold whZ;rw[xRt (r:=(ξ,ch)) (.t 0 (vG (f:=Dt.int) (l:=o)) (.h 0 h2 (.d 0 (vw8 O) (.t 0 q .nil)))),qa0];rfl
 |v::o2,o1,f+1,e,h=>by
  have W:o[o1.length]?=ς v:=by rw[e];simp
  have q:=in8 hf o1.length;rw[W]at q;unfold whZ;rw[xRt (r:=(θ,ch)) (.t 0 (vG (f:=Dt.int) (l:=o1)) (.h 0 h2 (.d 0 (vw8 O) (.t 0 q .nil)))),qa0];show((evS _ _ _ ch).bind _)=_;rw[xRs (o:=.nx [ς (.ref 2),ς (.own θ (.e (o1.map .int++[.int v])))] ch) (.h 0 h2 (.t 0 (vG (f:=Dt.int) (l:=o1)) (.c 0 (ix8 hf O W) (.o 0 (zD (δ:=[ς (.ref 2),ς (.own θ (.e (o1.map .int)))]) (i:=1) (l:=o1.map .int) (d:=.int v) (ch:=ch) rfl (by rw[qb7];rw[e]at U;simp at U ⊢;lia)) .nil)))),qa0];have:=pz hf h2 O U (o2:=o2) (o1:=o1++[v]) (f:=f) (by rw[e];simp) (by simp at h;lia);rw[qd3]at this;exact this
 |_::_,_,0,_,h=>by simp at h
 |[],_,0,_,h=>by simp at h
theorem my{z:Nat}(hf:S.fst=aS o)(h2:∀L,(ch++[dl L])[2]?=ς (.ins 0 [.ref 8,.g (.bl S.unl)]))(Z:∀L,(ch++[dl L])[8]?=ς (.dK (dp S.fst)))(O:∀L,(ch++[dl L])[z]?=ς (.e (L.map .g)))(U:∀L L',(ch++[dl L]).set z (.e (L'.map .g))=ch++[dl L'])(ho:o.length<1000000):∀{o2 o1:η Int}{f:Nat},o=o1++o2->o2.length<f->whZ (evT (ay gc t52) (whC d52.b)) (evS (ay gc t52) (foB d52.b)) f [ς (.ref 2),ς (.ref z)] (ch++[dl (o1.map .int)])=ς (.nx [ς (.ref 2),ς (.ref z)] (ch++[dl (o.map .int)]))
 |[],o1,f+1,e,_=>by rw[qf6]at e;subst e;have q:=in8 hf o.length;rw[qd6 (nL _)]at q;unfold whZ;rw[xRt (r:=(ξ,ch++[dl (o.map .int)])) (.d 0 (vl (O (o.map .int))) (.t 0 (vG (f:=Dt.int) (l:=o)) (.h 0 (h2 (o.map .int)) (.d 0 (vw8 (Z (o.map .int))) (.t 0 q .nil))))),qa0];rfl
 |v::o2,o1,f+1,e,h=>by
  have hk:o[o1.length]?=ς v:=by rw[e];simp
  have q:=in8 hf o1.length;rw[hk]at q;have hll:o1.length<16777216:=by rw[e]at ho;simp at ho;lia
  have g2:=h2 (o1.map .int);have Y:=Z (o1.map .int);have W:=O (o1.map .int);have gs:=U (o1.map .int) ((o1++[v]).map .int);have hx:=ix8 hf Y hk;unfold whZ;rw[xRt (r:=(θ,ch++[dl (o1.map .int)])) (.d 0 (vl W) (.t 0 (vG (f:=Dt.int) (l:=o1)) (.h 0 g2 (.d 0 (vw8 Y) (.t 0 q .nil))))),qa0]
  have hb':evS (ay gc t52) (foB d52.b) [ς (.ref 2),ς (.ref z)] (ch++[dl (o1.map .int)])=ς (.nx [ς (.ref 2),ς (.ref z)] (ch++[dl ((o1++[v]).map .int)])):=by
   show aL (sAp (eV 1) (eIx (eAt 0 0 (eV 0)) (eB .v bLen.g (aCn (eV 1) aNl)))) dQ [ς (.ref 2),ς (.ref z)] (ch++[dl (o1.map .int)])=_;have hL:(o1.map Dt.int).length=o1.length:=by simp
   rw[qd3]at gs ⊢;rw[<- gs];generalize o1.map Dt.int=L at g2 Y W gs hL hx ⊢;generalize ch++[dl L]=C at g2 Y W gs hx ⊢;have hx':ixV C (.ref 8) (.int o1.length)=ς (I v):=hx;rwa[aL,sAp,eV,lent,eIx,eAt,eB,kB,aCn,aNl];simp[lent,vw,vwO,vws,g2,W,hL,bw,bLen,fL,fin,T.d,hx',bY,CV.sol,hll,dQ,qb7]
  show((evS _ _ _ _).bind _)=_;rw[hb',qa0];exact my hf h2 Z O U ho (o2:=o2) (o1:=o1++[v]) (f:=f) (by rw[e];simp) (by simp at h;lia)
 |_::_,_,0,_,h=>by simp at h
 |[],_,0,_,h=>by simp at h
theorem rB(hf:S.fst=aS o)(U:o.length<1000):F81 [.ref 0] (hz sh S l g)=ς (.g (.e (o.map .int)),hz sh S l g):=by have O:F80 [.ref 2] (hz sh S l g)=ς (.g (.e (o.map .int)),hz sh S l g):=xR (.o 0 (pz (ch:=hz sh S l g) hf rfl rfl Θ (o2:=o) (o1:=[]) (f:=1100) rfl Θ) .nil);exact xR (.v 0 O .nil)
theorem rC(hf:S.fst=aS o)(U:o.length<1000):F53 [.ref 0] (hz sh S l g)=ς (.ref (hz sh S l g).length,hz sh S l g++[dl (o.map .int)]):=by have O:F52 [.ref 2] (hz sh S l g)=ς (.ref (hz sh S l g).length,hz sh S l g++[dl (o.map .int)]):=xR (.o 0 (my (z:=(hz sh S l g).length) (ch:=hz sh S l g) hf (λ_=>rfl) (λ_=>rfl) (λL=>Ξ) (λL W=>Ξ) Θ (o2:=o) (o1:=[]) (f:=1100) rfl Θ) .nil);exact xR (.v 0 O .nil)
end
structure PN where
 x:Fx
 out:List Dt
 bx:List (Key×Dt)
 ce:List (Key×Dt)
 pl:Int
 he:Int
 dn:Int
 res:Dt
def pn(sh:Sh)(S:PN)(tl:CH):CH:=.ins 4 [.g (.t S.x.rows),.g (.e S.x.onw),.g (.e S.x.inc),.ref 1,.ref 2,.ref 3,.ref 4,I S.pl,I S.he,I S.dn,.g S.res]::dl S.out::.dK (dp S.bx)::.dK (dp S.ce)::.dK (ac 5 sh)::tl
structure PA(x:Fx)(cn:List Str)(N:Nat)(S:PN)(a:AM):Prop where
 hx:S.x=x
 out:S.out=a.out.map .int
 on:a.out.length<=N
 bx:bv S.bx 0=a.b
 bi:∀p∈S.bx,Vi p.2
 bn:S.bx.length<=N
 ce:∀n∈cn,am (S.ce.map (·.1)) (S.ce.map (·.2)) (qj1 n)=ς (.int (a.f n 0))
 cl:S.ce.length<=N
 pl:S.pl=a.pl
 he:S.he=a.he
 h0:0<=a.he
 dn:S.dn=a.dn
 fn:∀n p,Vn (a.f n p)
def RwQ(x:Fx)(cn:η Str)(ss:Sh):Rw->Prop
 |.op _ _ a b=>bE a/\bE b
 |.load _ n=>n∈cn
 |.store n a=>n∈cn/\bE a
 |.take _ n a=>nW x ss n/\bE a
 |.lay n a b=>nW x ss n/\bE a/\bE b
 |.copy _ a|.say a|.fin a=>bE a
 |.hear _|.ife _ _|.go _=>True
structure XQ(x:Fx)(R:List Rw)(cn:List Str)(ss:Sh):Prop where
 nd:(ss.map (·.1)).Nodup
 dj:∀n∈cn,n∉ss.map (·.1)
 inc:∀d∈x.inc,Vi d
 rows:x.rows=R.map Rw.d
 onw:∀(i:Nat) r,R[i]?=ς r->x.onw[i]?=ς (mn i r)
 rok:∀r∈R,RwQ x cn ss r
section
variable{ss:Sh}{S:PN}{tl:CH}{x:Fx}{R:η Rw}{cn:η Str}{N:Nat}{a:AM}{f:Vf}
theorem PA.bN(o:PA x cn N S a)(s:Str):Vn (a.b s):=by rw[<- o.bx];exact bv_n vn0 o.bi s
theorem pbox(o:PA x cn N S a)(s:Str):F59 [.ref 0,.g (.str s)] (pn ss S tl)=ς (I (a.b s),pn ss S tl):=by have h2:=(mf (z:=0) λd e=>o.bi _ (aJ (k:=qj1 s) e)).1;exact xR (.c 0 (show getV (pn ss S tl) (.ref 2) (.str s) (I 0)=ς (I (a.b s))by show ς ((lkC (dp S.bx) (.inr s)).getD (I 0))=_;rw[iH,h2,<- o.bx];rfl) .nil)
theorem lh(o:PA x cn N S a)(p:Key):F73 [.ref 0,.g (aB p)] (pn ss S tl)=ς (I (wv a.b p),pn ss S tl):=by
 cases p with
 |inl i=>exact xR .nil
 |inr s=>exact xR (.v 0 (pbox (ss:=ss) (tl:=tl) o s) .nil)
theorem yu(hi:∀d∈S.x.inc,Vi d)(W:0<=S.he):F74 [.ref 0] (pn ss S tl)=ς (I (ltr S.x.inc S.he),pn ss {S with he:=S.he+1} tl):=by
 by_cases h:S.he<S.x.inc.length
 .have⟨p,hp⟩:=qh9 W;have O:p<S.x.inc.length:=by lia
  have⟨i,h1,h2⟩:=hi S.x.inc[p] (qp9 O);have U:ixV (pn ss {S with he:=S.he+1} tl) (.g (.e S.x.inc)) (.int S.he)=ς (I i):=(dB hp (by rw[gQ O,h1])).1;have e:ltr S.x.inc S.he=i:=by unfold ltr;rw[hp];simp[O,h1,iv]
  rw[e];exact xR (.t 1 (ltI (b:=(S.x.inc.length:Int)) (decide_eq_true h)) (.c 0 U .nil))
 .have e:ltr S.x.inc S.he=0:=by unfold ltr;rw[qd6 Θ];rfl
  rw[e];exact xR (.t 1 (ltI (b:=(S.x.inc.length:Int)) (decide_eq_false h)) .nil)
omit x in
theorem vH(r:Rw)(hs:mj r=θ)(X:XQ x R cn ss)(U:RwQ x cn ss r)(o:PA x cn N S a):F75 [.ref 0,.g r.d] (pn ss S (aa ss a.f))=ς (I (bo x a r),pn ss {S with he:=heA a r} (aa ss a.f)):=by
 obtain rfl:=o.hx;have same:pn ss {S with he:=a.he} (aa ss a.f)=pn ss S (aa ss a.f):=by rw[<- o.he]
 have wa:=λp=>lh (ss:=ss) (tl:=aa ss a.f) o p
 cases r<;>try(cases hs;done)
 .rename_i y sg p q;have O:=zy (sg:=sg) (a:=wv a.b p) (b:=wv a.b q) (ch:=pn ss S (aa ss a.f)) (mh o.bN U.2);rwa[heA,bo];rw[same];exact xR (.v 0 (wa p) (.v 0 (wa q) (.v 0 O .nil)))
 .rename_i y n;have g:ixV (pn ss S (aa ss a.f)) (.ref 3) (.str n)=ς (I (a.f n 0)):=by show(lkC (dp S.ce) (.inr n))=_;rw[iH,o.ce n U];rfl
  rwa[heA,bo];rw[same];exact xR (.c 4 g .nil)
 .rename_i y n p;have⟨k,m,h1,h2,O⟩:=U.1;rwa[heA,bo];rw[same,vd O];have W:=nX (v:=wv a.b p) h2;have Y:=qg1 (wv a.b p) (show(m:Int)≠0 by lia);exact xR (.c 5 (show ixV (pn ss S (aa ss a.f)) (.ref 4) (.str n)=ς (.ref (k+5))from bF X.nd h1) (.v 0 (wa p) (.d 0 (vl (ch:=pn ss S (aa ss a.f)) (i:=k+5) (L:=row a.f (n,m)) (aM h1)) (.t 1 (mdI (v:=wv a.b p) (m:=(row a.f (n,m)).length) (q:=((wv a.b p%m).toNat:Int)) (by rw[cG];lia) (by rw[cG];lia)) (.c 0 (ixL (ch:=pn ss S (aa ss a.f)) (i:=k+5) (aM h1) (nT W)) .nil)))))
 .rename_i y p;rwa[heA,bo];rw[same];exact xR (.v 0 (wa p) .nil)
 .have h1:=yu (ss:=ss) (S:=S) (tl:=aa ss a.f) X.inc (by rw[o.he];exact o.h0);rw[o.he]at h1;exact xR (.v 0 h1 .nil)
theorem rD{n:Str}{p:Nat}{v:Int}(h:n∉ss.map (·.1)):aa ss (fu f n p v)=aa ss f:=by
 refine qe8 λq O=>?_
 have U:¬ q.1=n:=λe=>h (qb8.mpr ⟨q,O,e⟩)
 show dl (row _ q)=dl (row _ q);congr 1;exact qe8 λW _=>by simp[fu,U]
theorem PA.up(o:PA x cn N S a):PA x cn (N+1) S a:=⟨o.hx,o.out,qa7 o.on,o.bx,o.bi,qa7 o.bn,o.ce,qa7 o.cl,o.pl,o.he,o.h0,o.dn,o.fn⟩
theorem EM(o:PA x cn N S a)(hi:∀d∈x.inc,Vi d)(O:RwQ x cn ss r):Vn (bo x a r):=by cases r<;>first|exact vo_n|exact o.fn _ _|exact mh o.bN O|exact zx hi|exact vn0
theorem prow(r:Rw)(hs:∀a,r≠.fin a)(X:XQ x R cn ss)(U:RwQ x cn ss r)(o:PA x cn N S a)(W:N<qa5):∃S',F76 [.ref 0,.g r.d] (pn ss S (aa ss a.f))=ς (.g .non,pn ss S' (aa ss (doA x a r).f))/\PA x cn (N+1) S' (doA x a r)/\S'.res=S.res:=by
 have wa:=λp=>lh (ss:=ss) (tl:=aa ss a.f) o p
 have O:S.bx.length<qa5:=qj0 o.bn W
 have set:mj r=θ->F76 [.ref 0,.g r.d] (pn ss S (aa ss a.f))=ς (.g .non,pn ss {S with he:=heA a r,bx:=aZ S.bx (.inr r.x) (.int (bo x a r))} (aa ss a.f))->∃S',F76 [.ref 0,.g r.d] (pn ss S (aa ss a.f))=ς (.g .non,pn ss S' (aa ss (doA x a r).f))/\PA x cn (N+1) S' (doA x a r)/\S'.res=S.res:=λZ e=>by
  rw[pe Z];have u:=o.up;refine⟨_,e,⟨u.hx,u.out,u.on,?_,λp hp=>?_,qd7 eZ (qp5 o.bn),u.ce,u.cl,u.pl,rfl,?_,u.dn,u.fn⟩,rfl⟩
  .funext s;show lv _ _ _=_;rw[nS];unfold bu;rw[<- o.bx];by_cases e:r.x=s<;>simp[e]
  .rcases gK hp with rfl|hp
   .exact(EM o X.inc U).i
   .exact o.bi p hp
  .have:=o.h0;cases r<;>rwa[heA]<;>lia
 cases r with
 |op y sg p q=>exact set rfl (xR (.v 0 (vH (.op y sg p q) rfl X U o) (.p 0 (gq (b:=S.bx) (x:=.inr y) (v:=.int (bo x a (.op y sg p q))) O) .nil)))
 |load y n=>exact set rfl (xR (.v 0 (vH (.load y n) rfl X U o) (.p 0 (gq (b:=S.bx) (x:=.inr y) (v:=.int (bo x a (.load y n))) O) .nil)))
 |take y n p=>exact set rfl (xR (.v 0 (vH (.take y n p) rfl X U o) (.p 0 (gq (b:=S.bx) (x:=.inr y) (v:=.int (bo x a (.take y n p))) O) .nil)))
 |copy y p=>exact set rfl (xR (.v 0 (vH (.copy y p) rfl X U o) (.p 0 (gq (b:=S.bx) (x:=.inr y) (v:=.int (bo x a (.copy y p))) O) .nil)))
 |hear y=>exact set rfl (xR (.v 0 (vH (.hear y) rfl X U o) (.p 0 (gq (b:=S.bx) (x:=.inr y) (v:=.int (bo x a (.hear y))) O) .nil)))
 |store n p=>
  have u:=o.up;have Y:Vn (wv a.b p):=mh o.bN U.2;refine⟨{S with ce:=aZ S.ce (.inr n) (.int (wv a.b p))},?_,⟨u.hx,u.out,u.on,u.bx,u.bi,u.bn,λm hm=>?_,qd7 eZ (qp5 o.cl),u.pl,u.he,u.h0,u.dn,CC o.fn Y⟩,rfl⟩
  .show _=ς (CV.g .non,pn ss _ (aa ss (fu a.f n 0 (wv a.b p))));rw[rD (X.dj n U.1)];exact xR (.v 0 (wa p) (.p 0 (gq (b:=S.ce) (x:=.inr n) (v:=.int (wv a.b p)) (qj0 o.cl W)) .nil))
  .show am _ _ _=ς (.int (fu a.f n 0 (wv a.b p) m 0));rw[iG];unfold fu;by_cases e:n=m
   .rw[if_pos (by rw[e]),if_pos ⟨e.symm,rfl⟩]
   .rw[if_neg (λq=>e (qy6 q)),if_neg (λq=>e q.1.symm)];exact o.ce m hm
 |lay n p q=>
  have⟨k,m,h1,h2,h3⟩:=U.1;have u:=o.up;have Y:Vn (wv a.b q):=mh o.bN U.2.2;have Z:=nX (v:=wv a.b p) h2;have hv':=qg1 (wv a.b p) (show(m:Int)≠0 by lia);have ed:doA x a (.lay n p q)={a with f:=fu a.f n (wv a.b p%m).toNat (wv a.b q)}:=by rwa[doA];rw[vd h3]
  rw[ed];refine⟨S,?_,⟨u.hx,u.out,u.on,u.bx,u.bi,u.bn,λc hc=>?_,u.cl,u.pl,u.he,u.h0,u.dn,CC o.fn Y⟩,rfl⟩
  .show _=ς (CV.g .non,pn ss S (aa ss (fu a.f n (wv a.b p%m).toNat (wv a.b q))));rw[<- jP X.nd h1]
   exact xR (.c 3 (show ixV (pn ss S (aa ss a.f)) (.ref 4) (.str n)=ς (.ref (k+5))from bF X.nd h1) (.v 0 (wa q) (.v 0 (wa p) (.d 0 (vl (ch:=pn ss S (aa ss a.f)) (i:=k+5) (L:=row a.f (n,m)) (aM h1)) (.t 1 (mdI (v:=wv a.b p) (m:=(row a.f (n,m)).length) (q:=((wv a.b p%m).toNat:Int)) (by rw[cG];lia) (by rw[cG];lia)) (.h 0 (show(pn ss S (aa ss a.f))[k+5]?=ς (dl (row a.f (n,m)))from aM h1) (.p 0 (show ip (dl (row a.f (n,m))) (.int ((wv a.b p%m).toNat:Int)) (I (wv a.b q))=ς (dl ((row a.f (n,m)).set (wv a.b p%m).toNat (.int (wv a.b q))))by show(ixN ((row a.f (n,m)).map CV.g).length _).map _=_;rw[qa2,cG,k8 Z,dl,qr3];rfl) .nil)))))))
  .show _=ς (Dt.int (fu a.f n _ _ c 0));unfold fu;rw[if_neg (λe=>X.dj c hc (qb8.mpr ⟨_,qa4 h1,e.1.symm⟩))];exact o.ce c hc
 |say p=>have u:=o.up;refine⟨{S with out:=S.out++[.int (wv a.b p)]},?_,⟨u.hx,by show S.out++_=_;rw[o.out];simp[doA],by have:=o.on;simp[doA];lia,u.bx,u.bi,u.bn,u.ce,u.cl,u.pl,u.he,u.h0,u.dn,u.fn⟩,rfl⟩;exact xR (.v 0 (wa p) (.p 0 (iF (l:=S.out) (d:=.int (wv a.b p)) (by rw[o.out,qa2];exact qj0 o.on W)) .nil))
 |ife y t=>exact⟨S,xR .nil,o.up,rfl⟩
 |go t=>exact⟨S,xR .nil,o.up,rfl⟩
 |fin a=>exact absurd rfl (hs a)
theorem yv(r:Rw)(hs:∀a,r≠.fin a)(W:S.x.onw[a.pl]?=ς (mn a.pl r))(o:PA x cn N S a):F77 [.ref 0,.g r.d] (pn ss S tl)=ς (I (goA a r),pn ss S tl):=by
 have U:=(dB (ch:=pn ss S tl) o.pl W).1;cases r with
 |ife y t=>
  have h1:=lh (ss:=ss) (tl:=tl) o (.inr y);by_cases O:a.b y=0
  .rw[show goA a (.ife y t)=a.pl+1 from if_pos O];exact xR (.c 0 U (.v 0 h1 (.t 0 (eqI (decide_eq_true O)) .nil)))
  .rw[show goA a (.ife y t)=t from if_neg O];exact xR (.c 0 U (.v 0 h1 (.t 0 (eqI (decide_eq_false O)) .nil)))
 |fin a=>exact absurd rfl (hs a)
 |_=>exact xR (.c 0 U .nil)
theorem fg(O:S.res=.non):F72 [.ref 0] (pn ss S tl)=ς (.g (.bl ξ),pn ss S tl):=xR (.t 0 (show oIsN.g S.res .non=ς (.f (.bl ξ))by rw[O];rfl) .nil)
theorem mz{i:Int}(O:S.res=.int i):F72 [.ref 0] (pn ss S tl)=ς (.g (.bl θ),pn ss S tl):=xR (.t 0 (show oIsN.g S.res .non=ς (.f (.bl θ))by rw[O];rfl) .nil)
theorem EN (X:XQ x R cn ss) (o:PA x cn N S a) (hN:N<1000000) (hr:S.res=.non) {r:Rw} (Y:R[a.pl]?=ς r) :
  (∀p,r=.fin p->F78 [.ref 0] (pn ss S (aa ss a.f))=ς (.g .non,pn ss {S with dn:=S.dn+1,res:=.int (wv a.b p)} (aa ss a.f)))∧
  ((∀p,r≠.fin p)->∀j:Nat,goA a r=j->∃S',F78 [.ref 0] (pn ss S (aa ss a.f))=ς (.g .non,pn ss S' (aa ss (stA x a r).f))/\PA x cn (N+1) S' (stA x a r)/\S'.res=.non):=by
 have he:=fg (ss:=ss) (tl:=aa ss a.f) hr
 have U:ixV (pn ss S (aa ss a.f)) (.g (.t S.x.rows)) (.int S.pl)=ς (.g r.d):=by rw[o.hx,X.rows];exact(dB o.pl (by rw[qa9,Y];rfl)).2
 have hro:=X.rok r (qa4 Y);have o1:PA x cn N {S with dn:=S.dn+1} {a with dn:=a.dn+1}:=⟨o.hx,o.out,o.on,o.bx,o.bi,o.bn,o.ce,o.cl,o.pl,o.he,o.h0,by show S.dn+1=_;rw[o.dn],o.fn⟩;refine⟨λp e=>?_,λhf j hj=>?_⟩
 .subst e;exact xR (.v 0 he (.c 0 U (.v 0 (lh (ss:=ss) (tl:=aa ss a.f) o1 p) .nil)))
 .have⟨S1,d1,O,e1⟩:=prow r hf X hro o1 (by rw[qb7];lia);have Z:F76 [.ref 0,.g r.d] (pn ss {S with dn:=S.dn+1} (aa ss a.f))=ς (.g .non,pn ss S1 (aa ss (doA x {a with dn:=a.dn+1} r).f)):=d1;have d2:=yv (ss:=ss) (tl:=aa ss (doA x {a with dn:=a.dn+1} r).f) r hf (by rw[O.hx,vv];exact X.onw a.pl r Y) O;rw[vt,hj]at d2;have W:stA x a r={doA x {a with dn:=a.dn+1} r with pl:=j}:=by unfold stA;rw[hj];rfl
  rw[W];generalize doA x {a with dn:=a.dn+1} r=b at*
  refine⟨{S1 with pl:=j},?_,⟨O.hx,O.out,O.on,O.bx,O.bi,O.bn,O.ce,O.cl,rfl,O.he,O.h0,O.dn,O.fn⟩,by show S1.res=_;rw[e1];exact hr⟩;exact xR (.v 0 he (.c 0 U (.c 0 (zz (ch:=pn ss {S with dn:=S.dn+1} (aa ss a.f)) (r:=r)) (.t 0 (zA hf) (.v 0 Z (.v 0 d2 .nil))))))
theorem pst:F54 [.ref 0] (pn ss S tl)=ς (I S.pl,pn ss S tl):=rfl
theorem pcnt:F56 [.ref 0] (pn ss S tl)=ς (I S.dn,pn ss S tl):=rfl
theorem pans:F79 [.ref 0] (pn ss S tl)=ς (.g S.res,pn ss S tl):=rfl
theorem zE:F57 [.ref 0] (pn ss S tl)=ς (.g (.e S.out),pn ss S tl):=xR (.d 0 (vl (ch:=pn ss S tl) (i:=1) (L:=S.out) rfl) .nil)
theorem zF(o:PA x cn N S a){n:Str}(O:n∈cn):F62 [.ref 0,.g (.str n)] (pn ss S tl)=ς (I (a.f n 0),pn ss S tl):=xR (.c 0 (show ixV (pn ss S tl) (.ref 3) (.str n)=ς (I (a.f n 0))by show(lkC (dp S.ce) (.inr n))=_;rw[iH,o.ce n O];rfl) .nil)
theorem vI(O:(ss.map (·.1)).Nodup){n:Str}{k:Nat}(h1:ss[k]?=ς (n,m)):F65 [.ref 0,.g (.str n)] (pn ss S (aa ss f))=ς (.g (.e (row f (n,m))),pn ss S (aa ss f)):=xR (.c 0 (show ixV (pn ss S (aa ss f)) (.ref 4) (.str n)=ς (.ref (k+5))from bF O h1) (.d 0 (vl (ch:=pn ss S (aa ss f)) (i:=k+5) (L:=row f (n,m)) (aM h1)) .nil))
end
abbrev Hd:=Str×Int×Bool
noncomputable def Hd.d(h:Hd):Dt:=.t [.str h.1,.int h.2.1,.bl h.2.2]
noncomputable def shC(cs:η Hd):Sh:=cs.map λh=>(h.1,1)
noncomputable def shS(ss:η Hd):Sh:=ss.map λh=>(h.1,h.2.1.toNat)
def foN:Nat->S->S
 |0,.sq (.fo _ _ b) _=>b
 |k+1,.sq (.fo _ _ _) r=>foN k r
 |k,.sq _ r=>foN k r
 |_,_=>.nil
noncomputable def cH:Nat->Dt->Bool
 |_,.non|_,.bl _|_,.int _|_,.str _=>θ
 |k+1,.t l=>l.all (cH k)
 |k+1,.e l=>l.all (cH k)
 |_,_=>ξ
omit x in
theorem n4:∀{k:Nat}{d:Dt},cH k d=θ->bJ d d=θ/\cV d<=k:=by
 have e:∀{k:Nat}{l:η Dt},(∀d∈l,bJ d d=θ/\cV d<=k)->cmpbs l l=θ/\deeps l<=k:=λ{k l}=>by
  induction l with
  |nil=>intro _;exact⟨rfl,qg4 _⟩
  |cons d l O=>
   intro h;have h1:=O λe W=>h e (.tail _ W)
   have h2:=h d (.head _);exact⟨by simp[cmpbs,h1.1,h2.1],by simp[deeps];lia⟩
 intro k;induction k with
 |zero=>intro d h;cases d<;>first|(cases h;done)|exact⟨rfl,qg4 _⟩
 |succ k O=>
  intro d h;cases d<;>try(cases h;done)
  case t l=>have:=e λd U=>O (qc9.mp h d U);exact⟨this.1,by simp[cV];lia⟩
  case e l=>have:=e λd U=>O (qc9.mp h d U);exact⟨this.1,by simp[cV];lia⟩
  all_goals exact⟨rfl,qg4 _⟩
theorem jR:peqs l l=θ:=cU (.e l)
omit x in
theorem pA{d:Dt}(h:cH 20 d=θ):eqD d d=ς θ:=by
 have:=n4 h;cases d<;>first|(cases h;done)|rfl|skip
 all_goals first
  |(simp[eqdi,eqds,eqdb,eqdn];done)
  |skip
 case t l=>
  have h1:cmpbs l l=θ:=this.1;have h2:deeps l<=59:=by have:deeps l+1<=20:=this.2;lia
  simp[eqdt,eqdl,h1,h2,jR]
 case e l=>
  have h1:cmpbs l l=θ:=this.1;have h2:deeps l<=59:=by have:deeps l+1<=20:=this.2;lia
  simp[eqdt,eqdl,h1,h2,jR]
theorem aN{d:Dt}(h:cH 20 d=θ):oNe.g d d=ς (.f (.bl ξ)):=by show gEq θ d d=_;unfold gEq;rw[pA h];rfl
theorem vJ{d:Dt}(h:cH 20 d=θ):oEq.g d d=ς (.f (.bl θ)):=by show gEq ξ d d=_;unfold gEq;rw[pA h];rfl
theorem rE{f:Vf}{q:Str×Nat}:cH 20 (.e (row f q))=θ:=qc9.mpr λd O=>by have⟨p,_,rfl⟩:=qb8.mp O;rfl
theorem iK{l:η Int}:cH 20 (.e (l.map .int))=θ:=qc9.mpr λd O=>by have⟨p,_,rfl⟩:=qb8.mp O;rfl
theorem bC{cs b:CH}(h:At ρ cs b)(L:CH):At ρ cs (b++L):=⟨h.inj,λhi=>by have:=h.get hi;rw[gL (aj this)];exact this⟩
theorem vK{b:CH}{o:CO}:(b++[o])[b.length]?=ς o:=Ξ
theorem pF{b:CH}{o:CO}:(b++[o]).set b.length o'=b++[o']:=Ξ
section
variable{ss:Sh}{P P':PN}{tl tl':CH}{f f':Vf}{σ:Nat->Nat}{b:CH}
theorem ei:(pn ss P tl).length=tl.length+5:=rfl
theorem zG(h:TlOk tl ss):Cl (pn ss P tl):=by
 unfold Cl;rw[ei];have W:=cc (sh:=ss) (o:=5) (n:=tl.length+5) (by rw[h.len];lia);have O:tl.all (clO (tl.length+5))=θ:=qc9.mpr λo U=>by have⟨L,rfl⟩:=h.all U;exact mr
 have lt:∀k,k<5->decide (k<tl.length+5)=θ:=λk Y=>decide_eq_true Θ
 rwa[pn,qd4,qt7,clO,lb,fY,mq,vj,W,O,lt,qn1,zc6]
theorem zH:(CV.ref 0::l.map .g).all (clV (pn ss P tl).length)=θ:=by simp[clV,ei]
theorem At.purP{F:Fd}{d:Dt}(h:At σ (pn ss P (aa ss f)) b)(U:TrD F)(O:F (.ref 0::ds.map .g) (pn ss P (aa ss f))=ς (.g d,pn ss P (aa ss f))):F (.ref (σ 0)::ds.map .g) b=ς (.g d,b):=by
 have:=h.pure U (zG aT) zH O;have e:rnA σ (.ref 0::ds.map .g)=.ref (σ 0)::ds.map .g:=by simp[rn,qb1]
 rw[e]at this;exact this
theorem jS(h:At σ (pn ss P tl) b):∃l,b[σ 0]?=ς (.ins 4 l):=⟨_,h.get (i:=0) rfl⟩
end
variable{hf pf:η CV}
section
variable{x:Fx}{R:η Rw}{sh:Sh}{N N':Nat}{S:HS}{l:LS}{g:Vf}{a:AM}{P:PN}{cn:η Str}{ρ σ:Nat->Nat}{b:CH}{cs ss:η Hd}{ns:η Str}{rw:Dt}
theorem HA.ntw(h:HA sh N S l g a){n:Str}(O:gr S.x n=ξ)(p:Nat):g n p=a.f n p:=by
 rw[<- h.f];show _=iv _ _;cases w:am (l.lg.map (·.1)) (l.lg.map (·.2)) [qj1 n,qj6 (p:Int)]with
 |none=>rfl
 |some d=>have⟨⟨m,j,h1,_,h2⟩,_⟩:=h.lg _ (aJ w);rwa[qm4,qo8]at h1;rw[<- h1.1,O]at h2;cases h2
structure Nm(x:Fx)(sh:Sh)(cn:List Str)(cs ss:List Hd):Prop where
 nd:(sh.map (·.1)).Nodup
 ns:((shS ss).map (·.1)).Nodup
 c:∀h∈cs,(∃k:Nat,sh[k]?=ς (h.1,1))/\h.1∈cn/\gr x h.1=h.2.2
 s:∀h∈ss,(∃k:Nat,sh[k]?=ς (h.1,h.2.1.toNat))/\(∃k:Nat,(shS ss)[k]?=ς (h.1,h.2.1.toNat))/\gr x h.1=h.2.2
abbrev akE(h p:Nat)(pg nm:Dt)(z:CV)(a5 a6 a7 a8 a9:ζ CV):Sl:=[ς (.ref h),ς (.ref p),ς (.g pg),ς (.g nm),ς z,a5,a6,a7,a8,a9]
abbrev akB(k:Nat):Fs:=evS (ay gc t68) (foN k d68.b)
theorem al_1{h p:Nat}{pg nm:Dt}{z:CV}{a6 a7 a8 a9:ζ CV}{v:Str->Int}(h1:b[h]?=ς (.ins 3 hf))(h2:b[p]?=ς (.ins 4 pf))(hb:∀n,F58 [.ref h,.g (.str n)] b=ς (I (v n),b))(hp:∀n,F59 [.ref p,.g (.str n)] b=ς (I (v n),b)):∀(ns:η Str){a5:ζ CV},∃O,cZ (bnd (.one 5)) (akB 0) (ns.map .str) (akE h p pg nm z a5 a6 a7 a8 a9) b=ς (.nx (akE h p pg nm z O a6 a7 a8 a9) b)
 |[],a5=>⟨a5,rfl⟩
 |n::ns,a5=>by have⟨O,i⟩:=al_1 (a6:=a6) (a7:=a7) (a8:=a8) (a9:=a9) (pg:=pg) (nm:=nm) (z:=z) h1 h2 hb hp ns (a5:=ς (.g (.str n)));exact⟨O,ze6 (dY (δ':=akE h p pg nm z (ς (.g (.str n))) a6 a7 a8 a9) rfl (xRs (.h 0 h1 (.v 0 (hb n) (.h 0 h2 (.v 0 (hp n) (.t 0 (aN (d:=.int (v n)) rfl) .nil))))))) i⟩
theorem al_2{h p:Nat}{pg nm:Dt}{z:CV}{a8 a9:ζ CV}{v w:Str->Int}(h1:b[h]?=ς (.ins 3 hf))(h2:b[p]?=ς (.ins 4 pf)):∀{cs:η Hd}{a5 a6 a7:ζ CV},(∀c∈cs,F61 [.ref h,.g (.str c.1)] b=ς (I (v c.1),b))->(∀c∈cs,F62 [.ref p,.g (.str c.1)] b=ς (I (w c.1),b))->(∀c∈cs,c.2.2=ξ->v c.1=w c.1)->∃O W U,cZ (bnd (.many [5,6,7])) (akB 1) (cs.map Hd.d) (akE h p pg nm z a5 a6 a7 a8 a9) b=ς (.nx (akE h p pg nm z O W U a8 a9) b)
 |[],a5,a6,a7,_,_,_=>⟨a5,a6,a7,rfl⟩
 |(n,s,t)::cs,a5,a6,a7,hb,hp,Y=>by
  have⟨O,W,U,i⟩:=al_2 (a8:=a8) (a9:=a9) (pg:=pg) (nm:=nm) (z:=z) (v:=v) (w:=w) h1 h2 (cs:=cs) (a5:=ς (.g (.str n))) (a6:=ς (I s)) (a7:=ς (.g (.bl t))) (λc hc=>hb c (.tail _ hc)) (λc hc=>hp c (.tail _ hc)) (λc hc=>Y c (.tail _ hc));refine⟨O,W,U,ze6 (dY (δ':=akE h p pg nm z (ς (.g (.str n))) (ς (I s)) (ς (.g (.bl t))) a8 a9) rfl ?_) i⟩;cases t with
  |true=>exact xRs .nil
  |false=>have e:=hp _ (.head _);rw[<- Y _ (.head _) rfl]at e;exact xRs (.h 0 h1 (.v 0 (hb _ (.head _)) (.h 0 h2 (.v 0 e (.t 0 (aN (d:=.int (v n)) rfl) .nil)))))
theorem al_3{pg nm:Dt}{z:CV}{a6:ζ CV}{f:Vf}{tn:Sh}(hn:(sh.map (·.1)).Nodup)(ht:(tn.map (·.1)).Nodup):∀{ss:η Hd}{b:CH}{a5 a7 a8 a9:ζ CV},At ρ (hz sh S l g) b->At σ (pn tn P (aa tn f)) b->(∀h∈ss,(∃k:Nat,sh[k]?=ς (h.1,h.2.1.toNat))/\(∃k:Nat,tn[k]?=ς (h.1,h.2.1.toNat))/\(h.2.2=ξ->∀p,g h.1 p=f h.1 p))->(∀h∈ss,h.2.1.toNat<=1000)->∃M U O W Y,cZ (bnd (.many [5,8,7])) (akB 2) (ss.map Hd.d) (akE (ρ 0) (σ 0) pg nm z a5 a6 a7 a8 a9) b=ς (.nx (akE (ρ 0) (σ 0) pg nm z U a6 O W Y) (b++M))
 |[],b,a5,a7,a8,a9,_,_,_,_=>⟨[],a5,a7,a8,a9,by rw[qf6];rfl⟩
 |(n,s,t)::ss,b,a5,a7,a8,a9,A1,A2,hs,hl=>by
  have⟨⟨k,k1⟩,⟨j,j1⟩,he⟩:=hs _ (.head _);have hm:=hl _ (.head _);simp only at k1 j1 he hm;have⟨hf,h1⟩:=bG A1;obtain⟨L,eL⟩:∃L,L=row g (n,s.toNat):=⟨_,rfl⟩;have c1:=At.grow A1 (ds:=[.str n]) (ai _) (yt (S:=S) (l:=l) (g:=g) hn k1);rw[<- eL]at c1;have hll:L.length<qa5:=by rw[eL,cG,qb7];lia
  have B1:=bC A1 [dl (L++[.int 8])];have B2:=bC A2 [dl (L++[.int 8])];have⟨M,U,O,W,Y,i⟩:=al_3 (pg:=pg) (nm:=nm) (z:=z) (a6:=a6) hn ht (ss:=ss) (a5:=ς (.g (.str n))) (a7:=ς (.g (.bl t))) (a8:=ς (I s)) (a9:=ς (.ref b.length)) B1 B2 (λh hh=>hs h (.tail _ hh)) (λh hh=>hl h (.tail _ hh));refine⟨[dl (L++[.int 8])]++M,U,O,W,Y,?_⟩;rw[<- qd8];refine ze6 (dY (δ':=akE (ρ 0) (σ 0) pg nm z (ς (.g (.str n))) a6 (ς (.g (.bl t))) (ς (I s)) a9) (ch1:=b++[dl (L++[.int 8])]) rfl ?_) i;rw[<- pF (o:=dl L)];have Z:(b++[dl L])[b.length]?=ς (dl L):=vK;have ap:=iF (d:=.int 8) hll;cases t with
  |true=>exact xRs (.h 0 h1 (.v 0 c1 (.h 0 Z (.h 0 Z (.p 0 ap .nil)))))
  |false=>
   have⟨pf,h2⟩:=jS (bC A2 [dl L]);have c2:=At.purP (bC A2 [dl L]) (ds:=[.str n]) (ai _) (vI ht j1);have e:row f (n,s.toNat)=L:=by rw[eL];exact qe8 λp _=>by rw[he rfl p]
   rw[e]at c2;have np:=aN (d:=.e L) (by rw[eL];exact rE);exact xRs (.h 0 h1 (.v 0 c1 (.h 0 h2 (.v 0 c2 (.d 0 (vl (ch:=b++[dl L]) Z) (.t 0 np (.h 0 Z (.h 0 Z (.p 0 ap .nil)))))))))
theorem vL(w:Nm x sh cn cs ss)(hl:∀h∈ss,h.2.1.toNat<=1000)(o:Sd x sh N S l g a)(hr:S.res=.non)(q:PA x cn N' P a)(A1:At ρ (hz sh S l g) b)(A2:At σ (pn (shS ss) P (aa (shS ss) a.f)) b)(ho:a.out.length<1000):∃M,F68 [.ref (ρ 0),.ref (σ 0),.g (.t [.t (cs.map Hd.d),.t (ss.map Hd.d),rw]),.g (.e (ns.map .str))] b=ς (.g (.bl θ),b++M):=by
 obtain rfl:=o.w.hx;obtain⟨pg,Y⟩:∃pg,pg=Dt.t [.t (cs.map Hd.d),.t (ss.map Hd.d),rw]:=⟨_,rfl⟩;rw[<- Y];have⟨hf,h1⟩:=bG A1;have c1:=At.grow A1 (ds:=[]) (ai _) (rC (l:=l) (g:=g) (sh:=sh) o.h.ft ho);have Z:=bC A1 [dl (a.out.map .int)];have O:=bC A2 [dl (a.out.map .int)];have⟨hf1,h11⟩:=bG Z;have⟨pf1,W⟩:=jS O;have z1:(b++[dl (a.out.map .int)])[b.length]?=ς (dl (a.out.map .int)):=vK;have s1:=At.pur Z (ds:=[]) (ai _) (dm o hr);have s2:=At.purP O (ds:=[]) (ai _) (pst (ss:=shS ss) (S:=P) (tl:=aa (shS ss) a.f));rw[q.pl]at s2;have n1:=At.pur Z (ds:=[]) (ai _) (yp o hr);have n2:=At.purP O (ds:=[]) (ai _) (pcnt (ss:=shS ss) (S:=P) (tl:=aa (shS ss) a.f));rw[q.dn]at n2;have t2:=At.purP O (ds:=[]) (ai _) (zE (ss:=shS ss) (S:=P) (tl:=aa (shS ss) a.f));rw[q.out]at t2;have ap:=iF (l:=a.out.map .int) (d:=.int 8) (by rw[qa2,qb7];lia)
 -- behind the letters
 have A3:=bC A1 [dl (a.out.map .int++[.int 8])];have A4:=bC A2 [dl (a.out.map .int++[.int 8])];obtain⟨c,hc⟩:∃c,c=b++[dl (a.out.map .int++[.int 8])]:=⟨_,rfl⟩;rw[<- hc]at A3 A4;have⟨hf2,h12⟩:=bG A3;have⟨pf2,h22⟩:=jS A4;have⟨a5,l1⟩:=al_1 (pg:=pg) (nm:=.e (ns.map .str)) (z:=.ref b.length) (a6:=ψ) (a7:=ψ) (a8:=ψ) (a9:=ψ) (a5:=ψ) h12 h22 (λn=>At.pur A3 (ds:=[.str n]) (ai _) (EL o hr n)) (λn=>At.purP A4 (ds:=[.str n]) (ai _) (pbox (ss:=shS ss) q n)) ns
 have⟨b5,b6,b7,l2⟩:=al_2 (pg:=pg) (nm:=.e (ns.map .str)) (z:=.ref b.length) (a8:=ψ) (a9:=ψ) (a5:=a5) (a6:=ψ) (a7:=ψ) (cs:=cs) (v:=λn=>g n 0) (w:=λn=>a.f n 0) h12 h22 (λc hc=>by have⟨⟨k,k1⟩,_⟩:=w.c c hc;exact At.pur A3 (ds:=[.str c.1]) (ai _) (vF w.nd k1 Θ)) (λc hc=>At.purP A4 (ds:=[.str c.1]) (ai _) (zF q (w.c c hc).2.1)) (λc hc ht=>o.h.ntw ((w.c c hc).2.2.trans ht) 0)
 have⟨M,c5,c7,c8,c9,l3⟩:=al_3 (pg:=pg) (nm:=.e (ns.map .str)) (z:=.ref b.length) (a6:=b6) (a5:=b5) (a7:=b7) (a8:=ψ) (a9:=ψ) (ss:=ss) w.nd w.ns A3 A4 (λh hh=>⟨(w.s h hh).1,(w.s h hh).2.1,λht p=>o.h.ntw ((w.s h hh).2.2.trans ht) p⟩) hl;have A5:=bC A3 M;have⟨hf3,U⟩:=bG A5;have r1:=At.pur A5 (ds:=[]) (ai _) (show F24 [.ref 0] (hz sh S l g)=ς (.g .non,hz sh S l g)by rw[<- hr];rfl);have r2:=At.pur A5 (ds:=[]) (ai _) (ld (sh:=sh) (l:=l) (g:=g) hr);have r3:=At.pur A5 (ds:=[]) (ai _) (show F67 [.ref 0] (hz sh S l g)=ς (.g (.bl ξ),hz sh S l g)by rw[<- o.w.un];rfl);refine⟨[dl (a.out.map .int++[.int 8])]++M,?_⟩;rw[<- qd8,<- hc];have e:(b++[dl (a.out.map .int)]).set b.length (dl (a.out.map .int++[.int 8]))=c:=by rw[pF,hc]
 rw[<- e]at l1 l2 l3 r1 r2 r3 U ⊢;have i1:=cF (fi:=iE (eV 3)) (pt:=.one 5) (g:=akB 0) (ds:=ns.map .str) rfl l1;have i2:=cF (fi:=iE (eIx (eV 2) (eK (.int 0)))) (pt:=.many [5,6,7]) (g:=akB 1) (ds:=cs.map Hd.d) (by rw[Y];rfl) l2;have i3:=cF (fi:=iE (eIx (eV 2) (eK (.int 1)))) (pt:=.many [5,8,7]) (g:=akB 2) (ds:=ss.map Hd.d) (by rw[Y];rfl) l3;exact xR (.h 0 h1 (.v 0 c1 (.h 0 h11 (.v 0 s1 (.h 0 W (.v 0 s2 (.t 0 (aN (d:=.int a.pl) rfl) (.h 0 h11 (.v 0 n1 (.h 0 W (.v 0 n2 (.t 0 (aN (d:=.int a.dn) rfl) (.h 0 W (.v 0 t2 (.d 0 (vl z1) (.t 0 (aN (iK (l:=a.out))) (.h 0 z1 (.h 0 z1 (.p 0 ap (.o 0 i1 (.o 0 i2 (.o 0 i3 (.h 0 U (.v 0 r1 (.h 0 U (.v 0 r2 (.h 0 U (.v 0 r3 .nil))))))))))))))))))))))))))))
end
def Sim(g:Fs)(δ:Sl)(A B:CH):Prop:=∃O σ,g δ A=ς (.nx δ O)/\A.length<=O.length/\At σ B O/\σ 0=0
noncomputable def cl0:Sl->Bool
 |[]=>θ
 |none::l=>cl0 l
 |some (.ref i)::l=>(i==0)&&cl0 l
 |some (.own _ _)::_=>ξ
 |some (.fn _ _)::_=>ξ
 |some (.g _)::l=>cl0 l
theorem iL(O:ρ 0=0):∀{δ:Sl},cl0 δ=θ->rnS ρ δ=δ
 |[],_=>rfl
 |none::l,h=>by rwa[rnS,qa3,Option.map_none];rw[show zf7 (zc9 (rn ρ)) l=l from iL O h]
 |some (.ref i)::l,h=>by rwa[cl0,qa1,beq_iff_eq]at h;have⟨rfl,h⟩:=h;rwa[rnS,qa3,qb2,rn,O];rw[show zf7 (zc9 (rn ρ)) l=l from iL O h]
 |some (.g d)::l,h=>by rwa[rnS,qa3,qb2,rn];rw[show zf7 (zc9 (rn ρ)) l=l from iL O h]
 |some (.own _ _)::_,h=>by cases h
 |some (.fn _ _)::_,h=>by cases h
variable{σ:Nat->Nat}
section
variable{g g1 g2:Fs}{δ:Sl}{A B C:CH}
theorem Sim.of{B':CH}(h:g δ A=ς (.nx δ B'))(hl:A.length<=B'.length)(k:At σ B B')(O:σ 0=0):Sim g δ A B:=⟨B',σ,h,hl,k,O⟩
theorem Sim.seq(hT:TrS g2)(Y:Cl B)(hn:0<B.length)(hδ:cl0 δ=θ)(h1:Sim g1 δ A B)(h2:Sim g2 δ B C):Sim (aL g1 g2) δ A C:=by
 have⟨O,σ,Z,a2,W,a4⟩:=h1;have⟨C',τ,c1,c2,c3,c4⟩:=h2;have⟨D,d1,d2,d3⟩:=hT (W.em Y) c1;have U:hat σ B.length O.length 0=0:=by unfold hat;rw[if_pos hn];exact a4
 rw[iL U hδ]at d1;have d1:g2 δ O=ς (.nx (rnS (hat σ B.length O.length) δ) D):=d1;rw[iL U hδ]at d1;refine⟨D,_,av Z d1,qd7 a2 (Em.fr W Y d2 d3 c2).le,At.comp d2 c3,?_⟩;show hat σ B.length O.length (τ 0)=0;rw[c4];exact U
end
noncomputable def blk:Nat->η (Str×η Dt)->CH
 |_,[]=>[]
 |n,p::r=>.e (p.2.map .g)::.t [.g (.str p.1),.ref n]::blk (n+2) r
noncomputable def prs:Nat->η (Str×η Dt)->η (Key×CV)
 |_,[]=>[]
 |n,p::r=>(.inr p.1,.ref n)::prs (n+2) r
noncomputable def rfs:Nat->Nat->η CV
 |_,0=>[]
 |n,k+1=>.ref n::rfs (n+2) k
variable{H:CH}
section
variable{fe:Fg}{α:Type}{f:α->Dt}{nm:α->Str}{vl:α->η Dt}
theorem mB:∀(l:η α)(O:∀a∈l,∀ch,fe [ς (.g (f a))] ch=ς (.ref (ch.length+1),ch++[.e ((vl a).map .g),.t [.g (.str (nm a)),.ref ch.length]])) (ch:CH),aF (bnd (.one 0)) tYs fe [ψ] (l.map f) ch=ς (rfs (ch.length+1) l.length,ch++blk ch.length (l.map λa=>(nm a,vl a)))
 |[],_,ch=>by simp[aF,rfs,blk]
 |a::l,O,ch=>by have U:=mB l (λb hb=>O b (.tail _ hb)) (ch++[.e ((vl a).map .g),.t [.g (.str (nm a)),.ref ch.length]]);have hb:bnd (.one 0) (f a) [ψ]=ς [ς (.g (f a))]:=rfl;rwa[qa3,aF,hb,qa0,tYs,if_true,O a (.head _),CV.sol,U,qb2];simp[rfs,blk]
theorem bj:∀{ps:η (Str×η Dt)}{n:Nat},(blk n ps).length=2*ps.length
 |[],_=>rfl
 |p::r,n=>by simp[blk,bj (ps:=r)];lia
theorem iM:∀{ps:η (Str×η Dt)}{n k:Nat}{p:Str×η Dt},ps[k]?=ς p->(blk n ps)[2*k]?=ς (.e (p.2.map .g))/\(blk n ps)[2*k+1]?=ς (.t [.g (.str p.1),.ref (n+2*k)])
 |[],_,_,_,h=>by simp at h
 |q::r,n,0,p,h=>by cases h;exact⟨rfl,rfl⟩
 |q::r,n,k+1,p,h=>by have:=iM (n:=n+2) (k:=k) (ps:=r) (p:=p) ‹h›;rw[show n+2+2*k=n+2*(k+1)by lia]at this;exact this
theorem jT:∀{ps:η (Str×η Dt)}{n:Nat},(∀k p,ps[k]?=ς p->H[n+2*k+1]?=ς (.t [.g (.str p.1),.ref (n+2*k)]))->aP H (rfs (n+1) ps.length)=ς (prs n ps)
 |[],_,_=>rfl
 |p::r,n,h=>by
  have O:=h 0 p rfl
  have U:=jT (ps:=r) (n:=n+2) λk q W=>by have:=h (k+1) q ‹W›;rw[show n+2*(k+1)=n+2+2*k by lia]at this;exact this
  rwa[qc2,rfs,aP,b9];rw[show n+1+2=n+2+1 by lia,U];rwa[Nat.mul_zero,zc4]at O;simp[O,cN,prs]
theorem lj:∀{ps:η (Str×η Dt)}{n:Nat},(prs n ps).map (·.1)=ps.map λp=>.inr p.1
 |[],_=>rfl
 |p::r,n=>by simp[prs,lj (ps:=r)]
theorem pG:∀{ps:η (Str×η Dt)}{n:Nat},(prs n ps).length=ps.length
 |[],_=>rfl
 |p::r,n=>by simp[prs,pG (ps:=r)]
theorem pH:∀{ps:η (Str×η Dt)}{n:Nat},((prs n ps).map (·.2)).all CV.sol=θ
 |[],_=>rfl
 |p::r,n=>by rwa[prs,qa3,qd4,CV.sol,qz1];exact pH
theorem pI:∀{k n:Nat},(rfs n k).all CV.sol=θ
 |0,_=>rfl
 |k+1,n=>by rwa[rfs,qd4,CV.sol,qz1];exact pI
theorem pJ:∀{k n:Nat},(rfs n k).length=k
 |0,_=>rfl
 |k+1,n=>by simp[rfs,pJ (k:=k)]
theorem iO{l:η α}(U:∀a∈l,∀ch,fe [ς (.g (f a))] ch=ς (.ref (ch.length+1),ch++[.e ((vl a).map .g),.t [.g (.str (nm a)),.ref ch.length]]))(hi:fi δ ch=ς (l.map f,ch))(hg:gC src δ=[ψ])(hl:l≠[])(hz:l.length<=qa5)(hn:(l.map nm).Nodup):eDc .o (eCo .v src fi (bnd (.one 0)) tYs fe) δ ch=ς (.ref (ch.length+2*l.length+1),ch++blk ch.length (l.map λa=>(nm a,vl a))++[.e (rfs (ch.length+1) l.length)]++[.dK (prs ch.length (l.map λa=>(nm a,vl a)))]):=by
 obtain⟨a,l',rfl⟩:∃a l',l=a::l':=by cases l with|nil=>exact absurd rfl hl|cons a l'=>exact⟨a,l',rfl⟩
 generalize hL:a::l'=l at*
 have O:eCo .v src fi (bnd (.one 0)) tYs fe δ ch=ς (.ref (ch.length+2*l.length),ch++blk ch.length (l.map λa=>(nm a,vl a))++[.e (rfs (ch.length+1) l.length)]):=by
  unfold eCo;rw[hi,qa0,hg];dsimp only;rw[mB _ U,qa0];dsimp only;rw[if_pos (by rw[pJ];exact hz)];unfold finL;have hd:dats (rfs (ch.length+1) l.length)=ψ:=by rw[<- hL];rfl
  rw[hd];dsimp only;rw[if_pos pI];simp[bj]
 generalize W:ch++blk ch.length (l.map λa=>(nm a,vl a))++[.e (rfs (ch.length+1) l.length)]=H at O ⊢;have hHl:H.length=ch.length+2*l.length+1:=by rw[<- W];simp[bj];lia
 have hp:aP H (rfs (ch.length+1) l.length)=ς (prs ch.length (l.map λa=>(nm a,vl a))):=by
  have:=jT (H:=H) (ps:=l.map λa=>(nm a,vl a)) (n:=ch.length) λk p hk=>by have hb:=(iM (n:=ch.length) hk).2;rw[<- W,qd8,gR Θ,show ch.length+2*k+1-ch.length=2*k+1 by lia,gL (aj hb)];exact hb
  rw[qa2]at this;exact this
 have hs:lZ H (.ref (ch.length+2*l.length))=ς (rfs (ch.length+1) l.length):=by
  have:H[ch.length+2*l.length]?=ς (.e (rfs (ch.length+1) l.length)):=by rw[<- W,qe1 (by simp[bj])];simp[bj]
  rwa[lZ,this]
 unfold eDc;rw[O,qa0];dsimp only;rw[hs,qa0,hp,qa0]
 have Y:((prs ch.length (l.map λa=>(nm a,vl a))).map (·.1)).Nodup:=by
  rw[lj,qd2];have e:(l.map ((λp:Str×η Dt=>(qj1 p.1:Key)) ∘ λa=>(nm a,vl a)))=(l.map nm).map qj1:=by simp
  rw[e];exact qm6 _ (λa b h q=>h (qy6 q)) hn
 rw[if_pos Y];unfold l4;have Z:dats ((prs ch.length (l.map λa=>(nm a,vl a))).map (·.2))=ψ:=by rw[<- hL];rfl
 rw[Z];dsimp only;rw[if_pos pH,hHl]
end
abbrev pD(cs ss:η Hd)(rw:Dt):Dt:=.t [.t (cs.map Hd.d),.t (ss.map Hd.d),rw]
variable{hs:η Hd}
section
variable{b:CH}{c h:Nat}{F:Fd}{hf:η CV}{δ:Sl}
theorem me_b{d:Dt}(h1:b[h]?=ς (.ins c hf))(O:F [.ref h,.g d] b=ς (.g e,b))(hδ:δ[3]?=ς (ς (.ref h)))(U:δ[0]?=ς (ς (.g d))):eMe c 2 F (eV 3) (aCn (eV 0) aNl) δ b=ς (.g e,b):=by unfold eMe eV kCa;rw[hδ];rwa[lent,qa0,qb2,h1,if_true,aCn,aNl,eV,U];exact O
theorem co_f{v:Hd->Dt}(h1:b[h]?=ς (.ins c hf))(O:∀q∈hs,F [.ref h,.g (.str q.1)] b=ς (.g (v q),b))(hl:hs.length<=1000)(hi:fi δ b=ς (hs.map Hd.d,b))(U:δ[0]?=ς (ς (.ref h))):eCo .v [ψ,ψ,ψ,ς 0] fi (bnd (.many [0,1,2])) (gm (eV 2)) (eMe c 2 F (eV 3) (aCn (eV 0) aNl)) δ b=ς (.g (.e ((hs.filter λq=>q.2.2).map v)),b):=
 dh (δ0:=[ψ,ψ,ψ,ς (.ref h)]) hi (by simp[gC,U,lent]) (by
  rw[qd2];exact bU (f:=Hd.d) (g:=v) (p:=λq=>q.2.2) λq W=>⟨[ς (.g (.str q.1)),ς (I q.2.1),ς (.g (.bl q.2.2)),ς (.ref h)],rfl,rfl,λ_=>me_b h1 (O q W) rfl rfl⟩) (by
  rw[qa2,qb7];have:=ql6 (λq:Hd=>q.2.2) hs;lia)
theorem yw{v:Hd->Dt}(h1:b[h]?=ς (.ins c hf))(O:∀q∈hs,F [.ref h,.g (.str q.1)] b=ς (.g (v q),b))(hl:hs.length<=1000)(hi:fi δ b=ς (hs.map Hd.d,b))(U:δ[0]?=ς (ς (.ref h))):eCo .v [ψ,ψ,ψ,ς 0] fi (bnd (.many [0,1,2])) tYs (eMe c 2 F (eV 3) (aCn (eV 0) aNl)) δ b=ς (.g (.e (hs.map v)),b):=
 dh (δ0:=[ψ,ψ,ψ,ς (.ref h)]) hi (by simp[gC,U,lent]) (by
  rw[qd2];exact bz (f:=Hd.d) (g:=v) λq W=>⟨[ς (.g (.str q.1)),ς (I q.2.1),ς (.g (.bl q.2.2)),ς (.ref h)],rfl,rfl,me_b h1 (O q W) rfl rfl⟩) (by
  rw[qa2,qb7];lia)
end
abbrev cD(f:Vf)(h:Hd):Dt:=.int (f h.1 0)
abbrev sD(f:Vf)(h:Hd):Dt:=.e (row f (h.1,h.2.1.toNat))
def twD(cs ss:η Hd)(f:Vf):η Dt:=((cs.filter λq=>q.2.2).map (cD f))++(ss.filter λq=>q.2.2).map (sD f)
def hmD(cs ss:η Hd)(f:Vf):η Dt:=cs.map (cD f)++ss.map (sD f)
variable{ss:η Hd}
theorem mC{cs:η Hd}{f:Vf}:cH 20 (.e (cs.map (cD f)++ss.map (sD f)))=θ:=qc9.mpr λd O=>by
 rcases qg9.mp O with O|O
 .have⟨p,_,rfl⟩:=qb8.mp O;rfl
 .have⟨p,_,rfl⟩:=qb8.mp O;exact qc9.mpr λd O=>by have⟨p,_,rfl⟩:=qb8.mp O;rfl
section
variable{x:Fx}{R:η Rw}{sh:Sh}{N N':Nat}{S:HS}{l:LS}{g:Vf}{a:AM}{P:PN}{cn:η Str}{ρ σ:Nat->Nat}{b:CH}{cs ss:η Hd}{ns:η Str}{rw:Dt}
theorem pK(w:Nm x sh cn cs ss)(A1:At ρ (hz sh S l g) b):∀q∈cs,F61 [.ref (ρ 0),.g (.str q.1)] b=ς (.g (cD g q),b):=λq U=>by have⟨⟨k,O⟩,_⟩:=w.c q U;exact At.pur A1 (ds:=[.str q.1]) (ai _) (vF w.nd O Θ)
theorem jU(w:Nm x sh cn cs ss)(A1:At ρ (hz sh S l g) b):∀q∈ss,F70 [.ref (ρ 0),.g (.str q.1)] b=ς (.g (sD g q),b):=λq U=>by have⟨⟨k,O⟩,_⟩:=w.s q U;exact At.pur A1 (ds:=[.str q.1]) (ai _) (yr w.nd O)
theorem mD(w:Nm x sh cn cs ss)(hc:cs.length<=1000)(hs:ss.length<=1000)(A1:At ρ (hz sh S l g) b):F71 [.ref (ρ 0),.g (pD cs ss rw)] b=ς (.g (.e (twD cs ss g)),b):=by
 have⟨hf,h1⟩:=bG A1;have O:=co_f (fi:=iE (eIx (eV 1) (eK (.int 0)))) (δ:=[ς (.ref (ρ 0)),ς (.g (pD cs ss rw)),ψ]) h1 (pK w A1) hc rfl rfl;have U:=co_f (fi:=iE (eIx (eV 1) (eK (.int 1)))) (δ:=[ς (.ref (ρ 0)),ς (.g (pD cs ss rw)),ς (.g (.e ((cs.filter λq=>q.2.2).map (cD g))))]) h1 (jU w A1) hs rfl rfl
 exact xR (.v 0 O (.v 0 U (.t 0 (nK (a:=(cs.filter λq=>q.2.2).map (cD g)) (b:=(ss.filter λq=>q.2.2).map (sD g)) (by rw[qa2,qa2,qb7];have:=ql6 (λq:Hd=>q.2.2) cs;have:=ql6 (λq:Hd=>q.2.2) ss;lia)) .nil)))
theorem CN(w:Nm x sh cn cs ss)(hc:cs.length<=1000)(hs:ss.length<=1000)(A1:At ρ (hz sh S l g) b):F82 [.ref (ρ 0),.g (pD cs ss rw)] b=ς (.g (.e (hmD cs ss g)),b):=by have⟨hf,h1⟩:=bG A1;have O:=yw (fi:=iE (eIx (eV 1) (eK (.int 0)))) (δ:=[ς (.ref (ρ 0)),ς (.g (pD cs ss rw)),ψ]) h1 (pK w A1) hc rfl rfl;have U:=yw (fi:=iE (eIx (eV 1) (eK (.int 1)))) (δ:=[ς (.ref (ρ 0)),ς (.g (pD cs ss rw)),ς (.g (.e (cs.map (cD g))))]) h1 (jU w A1) hs rfl rfl;exact xR (.v 0 O (.v 0 U (.t 0 (nK (a:=cs.map (cD g)) (b:=ss.map (sD g)) (by rw[qa2,qa2,qb7];lia)) .nil)))
theorem CP(w:Nm x sh cn cs ss)(hc:cs.length<=1000)(hs:ss.length<=1000)(q:PA x cn N P a)(A2:At σ (pn (shS ss) P (aa (shS ss) a.f)) b):F83 [.ref (σ 0),.g (pD cs ss rw)] b=ς (.g (.e (hmD cs ss a.f)),b):=by have⟨hf,h1⟩:=jS A2;have U:=yw (fi:=iE (eIx (eV 1) (eK (.int 0)))) (δ:=[ς (.ref (σ 0)),ς (.g (pD cs ss rw)),ψ]) (v:=cD a.f) h1 (λc hc=>At.purP A2 (ds:=[.str c.1]) (ai _) (zF q (w.c c hc).2.1)) hc rfl rfl;have W:=yw (fi:=iE (eIx (eV 1) (eK (.int 1)))) (δ:=[ς (.ref (σ 0)),ς (.g (pD cs ss rw)),ς (.g (.e (cs.map (cD a.f))))]) (v:=sD a.f) h1 (λc hc=>by have⟨_,⟨k,O⟩,_⟩:=w.s c hc;exact At.purP A2 (ds:=[.str c.1]) (ai _) (vI w.ns O)) hs rfl rfl;exact xR (.v 0 U (.v 0 W (.t 0 (nK (a:=cs.map (cD a.f)) (b:=ss.map (sD a.f)) (by rw[qa2,qa2,qb7];lia)) .nil)))
theorem yx(w:Nm x sh cn cs ss)(hc:cs.length<=1000)(hs:ss.length<=1000)(o:Sd x sh N S l g a)(q:PA x cn N' P a){v:Int}(A1:At ρ (hz sh {S with res:=.int v} {l with dn:=l.dn+1} g) b)(A2:At σ (pn (shS ss) {P with dn:=P.dn+1,res:=.int v} (aa (shS ss) a.f)) b)(ho:a.out.length<1000):F84 [.ref (ρ 0),.ref (σ 0),.g (pD cs ss rw),.g (.dct x.kk x.kv),.g (.e (twD cs ss g))] b=ς (.g (.bl θ),b):=by
 have⟨hf,h1⟩:=bG A1;have⟨pf,h2⟩:=jS A2;have W:HW x N {S with res:=.int v}:=⟨o.w.hx,o.w.h0,o.w.h1,o.w.ct,o.w.b0,o.w.b1,o.w.t0,o.w.t1,o.w.un⟩;have q':PA x cn N' {P with dn:=P.dn+1,res:=.int v} {a with dn:=a.dn+1}:=⟨q.hx,q.out,q.on,q.bx,q.bi,q.bn,q.ce,q.cl,q.pl,q.he,q.h0,by show P.dn+1=_;rw[q.dn],q.fn⟩;have s1:=At.pur A1 (ds:=[]) (ai _) (mx (i:=v) rfl);have s2:=At.pur A1 (ds:=[]) (ai _) (vD (i:=v) rfl);have s3:=At.pur A1 (ds:=[]) (ai _) (show F67 [.ref 0] (hz sh {S with res:=.int v} {l with dn:=l.dn+1} g)=ς (.g (.bl ξ),hz sh {S with res:=.int v} {l with dn:=l.dn+1} g)by rw[<- o.w.un];rfl);have a1:=At.pur A1 (ds:=[]) (ai _) (show F24 [.ref 0] (hz sh {S with res:=.int v} {l with dn:=l.dn+1} g)=ς (I v,hz sh {S with res:=.int v} {l with dn:=l.dn+1} g)from rfl);have a2:=At.purP A2 (ds:=[]) (ai _) (pans (ss:=shS ss));have l1:=At.pur A1 (ds:=[]) (ai _) (rB (S:={S with res:=.int v}) o.h.ft ho);have l2:=At.purP A2 (ds:=[]) (ai _) (zE (ss:=shS ss));rw[show PN.out {P with dn:=P.dn+1,res:=.int v}=a.out.map .int from q.out]at l2;have t1:=mD (rw:=rw) w hc hs A1;have⟨p,d,e,s,L,eL,qf⟩:=W.page;have Z:=zC (sh:=sh) (l:={l with dn:=l.dn+1}) (g:=g) W;rw[eL]at Z;have fc:=At.pur A1 (ds:=[]) (ai _) CM;have Z:=At.pur A1 (ds:=[.int S.cnt]) (ai _) Z;have⟨d',U,O⟩:=yq (sh:=sh) (l:={l with dn:=l.dn+1}) (g:=g) W (i:=v) rfl;obtain rfl:d=d':=by rw[qf]at U;cases U;rfl
 have O:=At.pur A1 (ds:=[]) (ai _) O;have ps:=At.purP A2 (ds:=[]) (ai _) (pst (ss:=shS ss));rw[show PN.pl {P with dn:=P.dn+1,res:=.int v}=a.pl from q.pl]at ps;have ni:oNi.g (.int a.pl) (.dct x.kk x.kv)=ς (.f (.bl (!kept x a.pl))):=rfl;have Y:=λ{g':η An}{L':η Prop}(z:Oa g' L')=>Oa.h 0 h1 (.v 0 s1 (.h 0 h1 (.v 0 s2 (.h 0 h1 (.v 0 s3 (.h 0 h1 (.v 0 a1 (.h 0 h2 (.v 0 a2 (.t 0 (aN (d:=.int v) rfl) (.h 0 h1 (.v 0 l1 (.h 0 h2 (.v 0 l2 (.t 0 (aN (iK (l:=a.out))) (.v 0 t1 (.t 0 (aN (d:=.e (twD cs ss g)) mC) (.h 0 h1 (.h 0 h1 (.v 0 fc (.v 0 Z (.c 0 (ix1 (ch:=b) (d:=.int p) (e:=.int d) (L:=.int e::.int s::L)) (.h 0 h1 (.v 0 O (.t 0 (aN (d:=.int d) rfl) (.h 0 h2 (.v 0 ps z)))))))))))))))))))))))))))
 cases k:kept x a.pl with
 |false=>rw[k]at ni;exact xR (Y (.t 0 ni .nil))
 |true=>
  rw[k]at ni;have⟨k1,k2⟩:=o.k k
  obtain rfl:d=a.dn:=by
   have:(fh S)[1]?=ς (.int d):=by show(fh {S with res:=.int v})[1]?=_;rw[qf];rfl
   rw[this]at k2;cases k2;rfl
  have ef:g=a.f:=by rw[<- o.h.f,k1];rfl
  have pc:=At.purP A2 (ds:=[]) (ai _) (pcnt (ss:=shS ss));have m1:=CN (rw:=rw) w hc hs A1;have m2:=CP (rw:=rw) w hc hs q' A2;rw[ef]at m1;have m2:F83 [.ref (σ 0),.g (pD cs ss rw)] b=ς (.g (.e (hmD cs ss a.f)),b):=m2;exact xR (Y (.t 0 ni (.h 0 h1 (.v 0 O (.h 0 h2 (.v 0 pc (.t 1 (eqI (a:=a.dn) (b:=P.dn+1-1) (decide_eq_true (by rw[q.dn];lia))) (.v 0 m1 (.v 0 m2 (.t 0 (vJ (d:=.e (hmD cs ss a.f)) mC) .nil))))))))))
end
def tlC(cs:η Hd):CH:=cs.map λh=>dl [.int h.2.1]
def tlS(ss:η Hd):CH:=ss.map λh=>dl (qb0 h.2.1.toNat (.int 0))
theorem fj{σ:Nat->Nat}{vl:Hd->η Dt}{sz:Hd->Nat}:∀{hs:η Hd}{n o:Nat},(∀k,k<hs.length->σ (k+o)=n+2*k)->rnP σ (ac o (hs.map λh=>(h.1,sz h)))=prs n (hs.map λh=>(h.1,vl h))
 |[],_,_,_=>rfl
 |h::hs,n,o,W=>by
  have U:=W 0 Ξ;have O:=fj (σ:=σ) (vl:=vl) (sz:=sz) (hs:=hs) (n:=n+2) (o:=o+1) λk hl=>by have:=W (k+1) ‹hl›;rw[show k+(o+1)=k+1+o by lia,this];lia
  rwa[zc5,Nat.mul_zero,zc4]at U;rwa[rnP,qa3,ac,prs,rn,U]at O ⊢;rw[O]
theorem jV:∀{a b:Sh}{o:Nat},ac o (a++b)=ac o a++ac (o+a.length) b
 |[],b,o=>by simp[ac]
 |p::a,b,o=>by have:=jV (a:=a) (b:=b) (o:=o+1);rwa[qp8,ac,this,qc2];rw[show o+1+a.length=o+(a.length+1)by lia]
section
variable{cs ss:η Hd}{R:η Rw}{bg:η Str}
abbrev pgm(cs ss:η Hd)(R:η Rw):Dt:=.t [.t (cs.map Hd.d),.t (ss.map Hd.d),.t (R.map Rw.d)]
abbrev slS(cs ss:η Hd)(R:η Rw)(bg:η Str):Sl:=[ς (.ref 0),ς (.g (pgm cs ss R)),ς (.g (.t (bg.map .str)))]
def stQ(cs:η Hd):CH:=.ins 2 [.ref 1]::.dK (ac 2 (shC cs))::tlC cs
def stB(cs ss:η Hd):CH:=.ins 2 [.ref 1]::.dK (ac 2 (shC cs++shS ss))::(tlC cs++tlS ss)
theorem yy(O:cs≠[])(hz:cs.length<=100)(Z:(cs.map (·.1)).Nodup):Sim (sFl 2 0 (eV 0) (eDc .o (eCo .v [ψ] (iE (eIx (eV 1) (eK (.int 0)))) (bnd (.one 0)) tYs (eTu (aCn (eIx (eV 0) (eK (.int 0))) (aCn (eLs .o (aCn (eIx (eV 0) (eK (.int 1))) aNl)) aNl)))))) (slS cs ss R bg) [.ins 2 []] (stQ cs):=by
 have U:=iO (f:=Hd.d) (nm:=(·.1)) (vl:=λh:Hd=>[.int h.2.1]) (fe:=eTu (aCn (eIx (eV 0) (eK (.int 0))) (aCn (eLs .o (aCn (eIx (eV 0) (eK (.int 1))) aNl)) aNl))) (fi:=iE (eIx (eV 1) (eK (.int 0)))) (src:=[ψ]) (δ:=slS cs ss R bg) (ch:=[.ins 2 []]) (l:=cs) (λh _ ch=>by simp! only[Hd.d];simp! []) rfl rfl O (by rw[qb7];lia) Z
 have W:([CO.ins 2 []]:CH).length=1:=rfl;rw[W]at U;refine .of (B':=.ins 2 [.ref (1+2*cs.length+1)]::(blk 1 (cs.map λh=>(h.1,[.int h.2.1]))++[.e (rfs 2 cs.length)]++[.dK (prs 1 (cs.map λh=>(h.1,[.int h.2.1])))])) (σ:=λi=>if i=0 then 0 else if i=1 then 1+2*cs.length+1 else 1+2*(i-2)) ?_ Ξ ?_ rfl
 .unfold sFl;rw[U,qa0];rfl
 .refine⟨λi j hi Y e=>?_,λ{i o} hi=>?_⟩
  .simp[stQ,tlC]at hi Y;split at e<;>split at e<;>(try split at e)<;>(try split at e)<;>lia
  .rcases i with _|_|i
   .cases hi;rfl
   .cases hi;show(CO.ins 2 _::_)[1+2*cs.length+1]?=_;rw[qd1,qe1 (by simp[bj];lia)];simp only[qc4,bj,qa2,qi7,show 1+2*cs.length-(2*cs.length+1)=0 by lia,qg3,rnO];unfold shC;rw[fj (vl:=λh:Hd=>[.int h.2.1]) (n:=1)];intro k hk;rw[if_neg Θ,if_neg Θ,Nat.add_sub_cancel]
   .have hi:(tlC cs)[i]?=ς o:=hi;rwa[tlC,qa9]at hi;have⟨h,h1,rfl⟩:=mS hi;have hb:=(iM (n:=1) (ps:=cs.map λh=>(h.1,[.int h.2.1])) (k:=i) (p:=(h.1,[.int h.2.1])) (by rw[qa9,h1];rfl)).1;rw[if_neg Θ,if_neg Θ,cM,show 1+2*(i+1+1-2)=2*i+1 by lia,qd1,qd8,gL (aj hb)];exact hb
theorem bH:(stQ cs).length=cs.length+2:=by simp[stQ,tlC]
theorem mE{n:Nat}{d:Dt}:(qb0 n [d]).flatten=qb0 n d:=by
 induction n with
 |zero=>rfl
 |succ n O=>rw[qf8,qk5,O,qf8];rfl
theorem yz(hne:ss≠[])(hz:cs.length+ss.length<=100)(Y:((cs++ss).map (·.1)).Nodup)(hs:∀h∈ss,0<=h.2.1/\h.2.1<=1000):Sim (sUp (eAt 2 0 (eV 0)) (eDc .o (eCo .v [ψ] (iE (eIx (eV 1) (eK (.int 1)))) (bnd (.one 0)) tYs (eTu (aCn (eIx (eV 0) (eK (.int 0))) (aCn (e2 .o oMul.g (eLs .v (aCn (eK (.int 0)) aNl)) (eIx (eV 0) (eK (.int 1)))) aNl)))))) (slS cs ss R bg) (stQ cs) (stB cs ss):=by
 have hn2:(ss.map (·.1)).Nodup:=by rw[qd3,qf4]at Y;exact Y.2.1
 have hd:=iO (f:=Hd.d) (nm:=(·.1)) (vl:=λh:Hd=>qb0 h.2.1.toNat (.int 0)) (fe:=eTu (aCn (eIx (eV 0) (eK (.int 0))) (aCn (e2 .o oMul.g (eLs .v (aCn (eK (.int 0)) aNl)) (eIx (eV 0) (eK (.int 1)))) aNl))) (fi:=iE (eIx (eV 1) (eK (.int 1)))) (src:=[ψ]) (δ:=slS cs ss R bg) (ch:=stQ cs) (l:=ss) (λh hh ch=>by have⟨h1,h2⟩:=hs h hh;simp! only[Hd.d];simp! [oMul,iY,ma,h1,h2,mE]) rfl rfl hne (by rw[qb7];lia) hn2
 rw[bH]at hd;obtain⟨B,O⟩:∃B,B=stQ cs++blk (cs.length+2) (ss.map λh=>(h.1,qb0 h.2.1.toNat (.int 0)))++[.e (rfs (cs.length+2+1) ss.length)]++[.dK (prs (cs.length+2) (ss.map λh=>(h.1,qb0 h.2.1.toNat (.int 0))))]:=⟨_,rfl⟩;rw[<- O]at hd;have d1:gp (stQ cs) 1=ς (ac 2 (shC cs)):=rfl;have d2:gp B 1=ς (ac 2 (shC cs)):=by rw[O];rfl
 have d3:gp B (cs.length+2+2*ss.length+1)=ς (prs (cs.length+2) (ss.map λh=>(h.1,qb0 h.2.1.toNat (.int 0)))):=by
  have:B[cs.length+2+2*ss.length+1]?=ς (.dK (prs (cs.length+2) (ss.map λh=>(h.1,qb0 h.2.1.toNat (.int 0))))):=by rw[O,qe1 (by simp[bj,bH];lia)];rwa[qc4,bj,bH,qa2,qi7];rw[show cs.length+2+2*ss.length+1-(cs.length+2+2*ss.length+1)=0 by lia];rfl
  rwa[gp,this]
 have hf:∀{o:Nat}{sh:Sh},(ac o sh).map (·.1)=sh.map λp=>(.inr p.1:Key):=λ{o sh}=>by
  induction sh generalizing o with
  |nil=>rfl
  |cons p r ih=>simp[ac,ih]
 have hlr:∀{o:Nat}{sh:Sh},(ac o sh).length=sh.length:=λ{o sh}=>by have:=congrArg ql7 (hf (o:=o) (sh:=sh));simpa using this
 have Z:((ac 2 (shC cs)++prs (cs.length+2) (ss.map λh=>(h.1,qb0 h.2.1.toNat (.int 0)))).map (·.1)).Nodup:=by
  rw[qd3,hf,lj];have e:((shC cs).map λp=>(qj1 p.1:Key))++((ss.map λh=>(h.1,qb0 h.2.1.toNat (.int 0:Dt))).map λp=>(qj1 p.1:Key))=((cs++ss).map (·.1)).map qj1:=by simp[shC,qb1]
  rw[e];exact qm6 _ (λa b h q=>h (qy6 q)) Y
 refine .of (B':=B.set 1 (.dK (ac 2 (shC cs)++prs (cs.length+2) (ss.map λh=>(h.1,qb0 h.2.1.toNat (.int 0)))))) (σ:=λi=>if i<cs.length+2 then i else cs.length+2+2*(i-(cs.length+2))) ?_ (by rw[O];simp) ?_ (if_pos Θ)
 .unfold sUp;have ha:eAt 2 0 (eV 0) (slS cs ss R bg) (stQ cs)=ς (.ref 1,stQ cs):=rfl;rw[ha,qa0];dsimp only;rw[hd,qa0];dsimp only;rw[d1,qa0,d2,qa0,d3,qa0,if_pos ⟨Θ,Z,by rw[hlr,pG,qb7];simp[shC];lia⟩]
 .have g0:∀{k:Nat},k<cs.length->(B.set 1 (.dK (ac 2 (shC cs)++prs (cs.length+2) (ss.map λh=>(h.1,qb0 h.2.1.toNat (.int 0))))))[k+2]?=(tlC cs)[k]?:=λ{k} U=>by rw[gN Θ,O,qd8,qd8,gL (by rw[bH];lia)];rfl
  refine⟨λi j hi hj e=>?_,λ{i o} hi=>?_⟩
  .split at e<;>split at e<;>lia
  .rcases i with _|_|i
   .cases hi;rw[if_pos Θ,O];rfl
   .cases hi;rw[if_pos Θ,qe3 (by rw[O];simp[bH];lia)];rwa[rnO];rw[jV];have r1:rnP (λi=>if i<cs.length+2 then i else cs.length+2+2*(i-(cs.length+2))) (ac 2 (shC cs))=ac 2 (shC cs):=cf λk U=>by simp[shC]at U;rw[if_pos Θ]
    have r2:rnP (λi=>if i<cs.length+2 then i else cs.length+2+2*(i-(cs.length+2))) (ac (2+(shC cs).length) (shS ss))=prs (cs.length+2) (ss.map λh=>(h.1,qb0 h.2.1.toNat (.int 0))):=fj λk U=>by
     have:(shC cs).length=cs.length:=by simp[shC]
     rw[this,if_neg Θ];lia
    rwa[rnP,qd3]at r1 r2 ⊢;rw[r1,r2]
   .have hi:(tlC cs++tlS ss)[i]?=ς o:=hi;have W:(tlC cs).length=cs.length:=by simp[tlC]
    rcases qj9 i cs.length with hl|hl
    .rw[gL Θ]at hi;rw[if_pos Θ];show _[i+2]?=_;rw[g0 hl,hi];rwa[tlC,qa9]at hi;have⟨h,_,rfl⟩:=mS hi;rw[cM]
    .rw[gR Θ,W]at hi;rwa[tlS,qa9]at hi;have⟨h,h1,rfl⟩:=mS hi;have hb:=(iM (n:=cs.length+2) (ps:=ss.map λh=>(h.1,qb0 h.2.1.toNat (.int 0))) (k:=i-cs.length) (p:=(h.1,qb0 h.2.1.toNat (.int 0))) (by rw[qa9,h1];rfl)).1;rw[if_neg Θ,cM,gN Θ,O,qd8,qd8,gR (by rw[bH];lia),bH,show cs.length+2+2*(i+1+1-(cs.length+2))-(cs.length+2)=2*(i-cs.length)by lia,gL (aj hb)];exact hb
end
noncomputable def tlR:S->S
 |.sq _ r=>r
 |s=>s
section
variable{cs ss:η Hd}{R:η Rw}{bg:η Str}
abbrev s3:Fs:=sFl 2 1 (eV 0) (eLs .o (aCn (eTu (aCn (eK (.int 0)) (aCn (eK (.int 0)) (aCn (eK (.int 0)) (aCn (eK (.int 0)) aNl))))) (aCn (eTu (aCn (eK (.int 0)) (aCn (eK (.int 0)) (aCn (eK (.int 0)) (aCn (eK (.int 0)) aNl))))) aNl)))
abbrev s4:Fs:=sFl 2 2 (eV 0) (eLs .o (aCn (eCo .o [ψ] (iE (eV 2)) (bnd (.one 0)) tYs (eTu (aCn (eV 0) (aCn (eK (.int 0)) aNl)))) (aCn (eLs .o aNl) aNl)))
abbrev s5:Fs:=sFl 2 3 (eV 0) (eLs .o (aCn (eLs .o aNl) (aCn (eLs .o aNl) aNl)))
abbrev s6:Fs:=sFl 2 4 (eV 0) (eK (.int 0))
abbrev s7:Fs:=sFl 2 5 (eV 0) (eK .non)
noncomputable def h4:η Dt:=[.int 0,.int 0,.int 0,.int 0]
theorem EO{K:CO}{T:CH}:s3 (slS cs ss R bg) (.ins 2 [.ref 1]::K::T)=ς (.nx (slS cs ss R bg) (.ins 2 [.ref 1,.ref (T.length+2)]::K::(T++[.e [.g (.t h4),.g (.t h4)]]))):=rfl
theorem EQ{K:CO}{T:CH}{a b:CV}(hb:bg.length<=100):s4 (slS cs ss R bg) (.ins 2 [a,b]::K::T)=ς (.nx (slS cs ss R bg) (.ins 2 [a,b,.ref (T.length+4)]::K::(T++[dl (bg.map λs=>Bx.d (s,0)),.e [],.e [.ref (T.length+2),.ref (T.length+3)]]))):=by
 have hc:eCo .o [ψ] (iE (eV 2)) (bnd (.one 0)) tYs (eTu (aCn (eV 0) (aCn (eK (.int 0)) aNl))) (slS cs ss R bg) (.ins 2 [a,b]::K::T)=ς (.ref (T.length+2),.ins 2 [a,b]::K::(T++[dl (bg.map λs=>Bx.d (s,0))])):=by
  have hi:iE (eV 2) (slS cs ss R bg) (.ins 2 [a,b]::K::T)=ς (bg.map .str,.ins 2 [a,b]::K::T):=rfl;unfold eCo;rw[hi,qa0];have:=bz (pt:=.one 0) (ft:=tYs) (fe:=eTu (aCn (eV 0) (aCn (eK (.int 0)) aNl))) (δ:=gC [ψ] (slS cs ss R bg)) (ch:=.ins 2 [a,b]::K::T) (f:=.str) (g:=λs:Str=>Bx.d (s,0)) (l:=bg) λs _=>⟨_,rfl,rfl,rfl⟩
  rw[this,qa0];dsimp only;rw[if_pos (by rw[qa2,qb7];lia),bO];rfl
 rwa[s4,sFl,eLs,aCn,hc,qa0,aNl,qb2];simp[finL,dats,fin,al,eV,lent,CV.sol,cO,qb7]
theorem ER{K:CO}{T:CH}{a b c:CV}:s5 (slS cs ss R bg) (.ins 2 [a,b,c]::K::T)=ς (.nx (slS cs ss R bg) (.ins 2 [a,b,c,.ref (T.length+4)]::K::(T++[.e [],.e [],.e [.ref (T.length+2),.ref (T.length+3)]]))):=by rwa[s5,sFl,eLs,aCn,aNl,qa0,qb2];simp[finL,dats,fin,al,eV,lent,CV.sol,cO,qb7]
theorem CQ{K:CO}{T:CH}{a b c d:CV}:aL s6 (aL s7 dQ) (slS cs ss R bg) (.ins 2 [a,b,c,d]::K::T)=ς (.nx (slS cs ss R bg) (.ins 2 [a,b,c,d,I 0,.g .non]::K::T)):=rfl
def stC(cs ss:η Hd)(bg:η Str):CH:=.ins 2 [.ref 1,.ref 2,.ref 3,.ref 4,I 0,.g .non]::.dK (ac 9 (shC cs++shS ss))::.e [.g (.t h4),.g (.t h4)]::.e [.ref 5,.ref 6]::.e [.ref 7,.ref 8]::dl (bg.map λs=>Bx.d (s,0))::.e []::.e []::.e []::(tlC cs++tlS ss)
theorem vM{o:CO}(h:o∈tlC cs++tlS ss):∃L,o=dl L:=by
 rcases qg9.mp h with h|h
 .rwa[tlC,qb8]at h;have⟨a,_,rfl⟩:=h;exact⟨_,rfl⟩
 .rwa[tlS,qb8]at h;have⟨a,_,rfl⟩:=h;exact⟨_,rfl⟩
theorem CS:Cl (stQ cs):=by
 unfold Cl;rw[bH];have W:=cc (sh:=shC cs) (o:=2) (n:=cs.length+2) (by simp[shC];lia);have U:(tlC cs).all (clO (cs.length+2))=θ:=qc9.mpr λo O=>by have⟨L,rfl⟩:=vM (ss:=[]) (cs:=cs) (by simpa[tlS] using O);exact mr
 rwa[stQ,qd4,qt7,clO,fY,W,U,qn1];exact decide_eq_true Θ
theorem pL:(stB cs ss).length=cs.length+ss.length+2:=by simp[stB,tlC,tlS]
theorem CT:Cl (stB cs ss):=by
 unfold Cl;rw[pL];have W:=cc (sh:=shC cs++shS ss) (o:=2) (n:=cs.length+ss.length+2) (by simp[shC,shS];lia);have U:(tlC cs++tlS ss).all (clO (cs.length+ss.length+2))=θ:=qc9.mpr λo O=>by have⟨L,rfl⟩:=vM O;exact mr
 rwa[stB,qd4,qt7,clO,fY,W,U,qn1];exact decide_eq_true Θ
theorem cI:(stC cs ss bg).length=cs.length+ss.length+9:=by simp[stC,tlC,tlS]
theorem vN:Cl (stC cs ss bg):=by
 unfold Cl;rw[cI];have Y:=cc (sh:=shC cs++shS ss) (o:=9) (n:=cs.length+ss.length+9) (by simp[shC,shS];lia);have O:(tlC cs++tlS ss).all (clO (cs.length+ss.length+9))=θ:=qc9.mpr λo W=>by have⟨L,rfl⟩:=vM W;exact mr
 have U:∀k,k<9->decide (k<cs.length+ss.length+9)=θ:=λk Z=>decide_eq_true Θ
 rwa[stC,qd4,qt7,clO,fY,lb,Y,O,mq,U,qn1,zc6]
noncomputable def sgS(n i:Nat):Nat:=match i with
 |0=>0
 |1=>1
 |2=>n+2
 |3=>n+5
 |4=>n+8
 |5=>n+3
 |6=>n+4
 |7=>n+6
 |8=>n+7
 |i+9=>i+2
noncomputable def sgI(n j:Nat):Nat:=if j<2 then j else if j<n+2 then j+7 else if j=n+2 then 2 else if j=n+5 then 3 else if j=n+8 then 4 else if j=n+3 then 5 else if j=n+4 then 6 else if j=n+6 then 7 else 8
theorem pM{n i:Nat}(h:i<n+9):sgI n (sgS n i)=i:=by
 rcases i with _|_|_|_|_|_|_|_|_|i
 .rfl
 .rfl
 all_goals
  rwa[sgS];unfold sgI
  repeat first|rw[if_pos Θ]|rw[if_neg Θ]
theorem vO{T L:CH}:(T++L)[T.length+j]?=L[j]?:=by rw[gR Θ,qe9]
theorem vP(hc:cs≠[])(hs:ss≠[])(hz:cs.length+ss.length<=100)(hb:bg.length<=100)(Z:((cs++ss).map (·.1)).Nodup)(hv:∀h∈ss,0<=h.2.1/\h.2.1<=1000):∃B σ,F13 [.ref 0,.g (pgm cs ss R),.g (.t (bg.map .str))] [.ins 2 []]=ς (.g .non,B)/\At σ (stC cs ss bg) B/\σ 0=0:=by
 have hnc:(cs.map (·.1)).Nodup:=by rw[qd3,qf4]at Z;exact Z.1
 have rest:Sim (aL s3 (aL s4 (aL s5 (aL s6 (aL s7 dQ))))) (slS cs ss R bg) (stB cs ss) (stC cs ss bg):=by
  obtain⟨T,W⟩:∃T,T=tlC cs++tlS ss:=⟨_,rfl⟩;have hTl:T.length=cs.length+ss.length:=by rw[W];simp[tlC,tlS]
  have U:∀o∈T,∃L,o=dl L:=λo ho=>vM (by rw[<- W];exact ho)
  have hr:rnP (sgS T.length) (ac 9 (shC cs++shS ss))=ac 2 (shC cs++shS ss):=cf λk hk=>rfl
  have O:(stC cs ss bg).length=T.length+9:=by rw[cI,hTl]
  unfold stB;rw[<- W];have e1:(T++[CO.e [.g (.t h4),.g (.t h4)]]).length=T.length+1:=by simp
  have e2':(T++[CO.e [.g (.t h4),.g (.t h4)]]++[dl (bg.map λs=>Bx.d (s,0)),.e [],.e [.ref (T.length+1+2),.ref (T.length+1+3)]]).length=T.length+4:=by simp
  have r3:=EQ (cs:=cs) (ss:=ss) (R:=R) (bg:=bg) (K:=.dK (ac 2 (shC cs++shS ss))) (T:=T++[CO.e [.g (.t h4),.g (.t h4)]]) (a:=.ref 1) (b:=.ref (T.length+2)) hb;rw[e1]at r3;have r4:=ER (cs:=cs) (ss:=ss) (R:=R) (bg:=bg) (K:=.dK (ac 2 (shC cs++shS ss))) (T:=T++[CO.e [.g (.t h4),.g (.t h4)]]++[dl (bg.map λs=>Bx.d (s,0)),.e [],.e [.ref (T.length+1+2),.ref (T.length+1+3)]]) (a:=.ref 1) (b:=.ref (T.length+2)) (c:=.ref (T.length+1+4));rw[e2']at r4;refine .of (σ:=sgS T.length) (av EO (av r3 (av r4 CQ))) Ξ ?_ rfl;rwa[qd8];refine⟨λi j hi hj e=>?_,λ{i o} hi=>?_⟩
  .rw[O]at hi hj;rw[<- pM hi,e,pM hj]
  .have hi':i<T.length+9:=by rw[<- O];exact aj hi
   have ap:∀j L,(CO.ins 2 [.ref 1,.ref (T.length+2),.ref (T.length+1+4),.ref (T.length+4+4),I 0,.g .non]::CO.dK (ac 2 (shC cs++shS ss))::(T++L))[T.length+j+2]?=L[j]?:=λj L=>vO
   rcases i with _|_|_|_|_|_|_|_|_|i
   .cases hi;rfl
   .cases hi;rwa[rnO,hr];rfl
   .cases hi;exact ap 0 _
   .cases hi;exact ap 3 _
   .cases hi;exact ap 6 _
   .cases hi;rw[cM];exact ap 1 _
   .cases hi;exact ap 2 _
   .cases hi;exact ap 4 _
   .cases hi;exact ap 5 _
   .have hi:(tlC cs++tlS ss)[i]?=ς o:=hi;rw[<- W]at hi;have⟨L,rfl⟩:=U o (qa4 hi);rw[cM];show(T++_)[i]?=_;rw[gL (aj hi)];exact hi
 have t1:TrS (aL s3 (aL s4 (aL s5 (aL s6 (aL s7 dQ))))):=by have w:TrS (evS (ay gc t13) (tlR (tlR d13.b))):=yb (dz t13) _;exact @w
 have t2:TrS (aL (sUp (eAt 2 0 (eV 0)) (eDc .o (eCo .v [ψ] (iE (eIx (eV 1) (eK (.int 1)))) (bnd (.one 0)) tYs (eTu (aCn (eIx (eV 0) (eK (.int 0))) (aCn (e2 .o oMul.g (eLs .v (aCn (eK (.int 0)) aNl)) (eIx (eV 0) (eK (.int 1)))) aNl)))))) (aL s3 (aL s4 (aL s5 (aL s6 (aL s7 dQ)))))):=by have w:TrS (evS (ay gc t13) (tlR d13.b)):=yb (dz t13) _;exact @w
 have z:=Sim.seq (δ:=slS cs ss R bg) @t2 CS (by rw[bH];lia) rfl (yy (ss:=ss) (R:=R) (bg:=bg) hc Θ hnc) (Sim.seq @t1 CT (by rw[pL];lia) rfl (yz (R:=R) (bg:=bg) hs hz Z hv) rest);have⟨B,σ,h1,h2,h3,Y⟩:=z;exact⟨B,σ,by rw[q13];exact nM h1,h3,Y⟩
end
def bP:Nat->η Rw->η Dt
 |_,[]=>[]
 |k,r::R=>mn k r::bP (k+1) R
theorem pN:∀{R:η Rw}{k i:Nat}{r:Rw},R[i]?=ς r->(bP k R)[i]?=ς (mn (k+i) r)
 |[],_,_,_,h=>by simp at h
 |q::R,k,0,r,h=>by cases h;rfl
 |q::R,k,i+1,r,h=>by have:=pN (R:=R) (k:=k+1) (i:=i) (r:=r) ‹h›;rw[show k+1+i=k+(i+1)by lia]at this;exact this
theorem mF:∀{R:η Rw}{k:Nat},(bP k R).length=R.length
 |[],_=>rfl
 |q::R,k=>by simp[bP,mF (R:=R)]
theorem CU(i:Nat)(r:Rw):F11 [I i,.g r.d] ch=ς (.g (mn i r),ch):=by cases r<;>exact xR .nil
theorem pO:∀{R:η Rw}{k:Nat},aF (bnd (.many [0,1])) tYs (eCa 2 F11 (aCn (eV 0) (aCn (eV 1) aNl))) [ψ,ψ] (bX k (R.map Rw.d)) ch=ς ((bP k R).map .g,ch)
 |[],_=>rfl
 |r::R,k=>by
  have hb:bnd (.many [0,1]) (.t [.int k,r.d]) [ψ,ψ]=ς [ς (I k),ς (.g r.d)]:=rfl
  have hc:eCa 2 F11 (aCn (eV 0) (aCn (eV 1) aNl)) [ς (I k),ς (.g r.d)] ch=ς (.g (mn k r),ch):=by show kCa 2 F11 [I k,.g r.d] [ς (I k),ς (.g r.d)] ch=_;unfold kCa;rw[if_pos ⟨rfl,rfl⟩];exact CU k r
  rwa[qa3,bX,aF,hb,qa0,tYs,if_true,hc,CV.sol,pO (R:=R) (k:=k+1),qb2,bP]
section
variable{cs ss:η Hd}{R:η Rw}{bg:η Str}{ch:CH}
theorem pP(U:R.length<=1000):F12 [.g (pgm cs ss R)] ch=ς (.g (.e (bP 0 R)),ch):=by rw[q12];refine fX (jO (jN ?_ rfl));unfold eCo;have hi:iN (eIx (eV 0) (eK (.int 2))) [ς (.g (pgm cs ss R))] ch=ς (bX 0 (R.map Rw.d),ch):=rfl;show((iN (eIx (eV 0) (eK (.int 2))) [ς (.g (pgm cs ss R))] ch).bind _)=_;rw[hi,qa0];have O:gC [ψ,ψ] [ς (.g (pgm cs ss R))]=[ψ,ψ]:=rfl;dsimp only;show((aF _ _ _ (gC [ψ,ψ] [ς (.g (pgm cs ss R))]) _ _).bind _)=_;rw[O,pO,qa0];dsimp only;rw[if_pos (by rw[qa2,mF,qb7];lia),uM];rfl
abbrev Kp':=Int×η Str
noncomputable def Kp'.d(k:Kp'):Dt:=.t [.int k.1,.t (k.2.map .str)]
abbrev cod(bg:η Str)(ks:η Kp'):Dt:=.t [.t (bg.map .str),.t (ks.map Kp'.d)]
abbrev slH(cs ss:η Hd)(R:η Rw)(bg:η Str)(ks:η Kp')(inc:η Dt):Sl:=[ς (.ref 0),ς (.g (pgm cs ss R)),ς (.g (cod bg ks)),ς (.own ξ (.e inc))]
variable{ks:η Kp'}{inc:η Dt}
def fx(cs ss:η Hd)(R:η Rw)(ks:η Kp')(inc:η Dt):Fx:=⟨R.map Rw.d,bP 0 R,ss.map λh=>.inr h.1,ss.map λh=>.int h.2.1,((cs++ss).filter λh=>h.2.2).map λh=>.str h.1,ks.map λk=>.inl k.1,ks.map λk=>.t (k.2.map .str),inc⟩
theorem fZ{k:Nat}{fs:η CV}{e:Fg}{d:Dt}(U:δ[0]?=ς (ς (.ref 0)))(h:e δ [.ins 3 fs]=ς (.g d,[.ins 3 fs]))(W:fs.length=k)(O:k<1000):sFl 3 k (eV 0) e δ [.ins 3 fs]=ς (.nx δ [.ins 3 (fs++[.g d])]):=by unfold sFl eV;rw[h,qa0];simp[U,lent,cO,CV.sol,W,O]
theorem vQ{l:η (Key×Dt)}:l4 .v (dp l) ch=ς (.g (.dct (l.map (·.1)) (l.map (·.2))),ch):=by unfold l4;rw[dA];dsimp only;rw[nN];rfl
theorem vR(U:(ss.map (·.1)).Nodup)(hl:ss.length<=100):eDc .v (eCo .v [ψ] (iE (eIx (eV 1) (eK (.int 1)))) (bnd (.one 0)) tYs (eTu (aCn (eIx (eV 0) (eK (.int 0))) (aCn (eIx (eV 0) (eK (.int 1))) aNl)))) (slH cs ss R bg ks inc) ch=ς (.g (.dct (ss.map λh=>.inr h.1) (ss.map λh=>.int h.2.1)),ch):=by
 have O:eCo .v [ψ] (iE (eIx (eV 1) (eK (.int 1)))) (bnd (.one 0)) tYs (eTu (aCn (eIx (eV 0) (eK (.int 0))) (aCn (eIx (eV 0) (eK (.int 1))) aNl))) (slH cs ss R bg ks inc) ch=ς (.g (.e ((ss.map λh=>(h.1,h.2.1)).map Bx.d)),ch):=by
  have hi:iE (eIx (eV 1) (eK (.int 1))) (slH cs ss R bg ks inc) ch=ς (ss.map Hd.d,ch):=rfl;unfold eCo;rw[hi,qa0];have:=bz (pt:=.one 0) (ft:=tYs) (fe:=eTu (aCn (eIx (eV 0) (eK (.int 0))) (aCn (eIx (eV 0) (eK (.int 1))) aNl))) (δ:=gC [ψ] (slH cs ss R bg ks inc)) (ch:=ch) (f:=Hd.d) (g:=λh:Hd=>Bx.d (h.1,h.2.1)) (l:=ss) λh _=>⟨_,rfl,rfl,rfl⟩
  rw[this,qa0];dsimp only;rw[if_pos (by rw[qa2,qb7];lia),bO,qd2];rfl
 unfold eDc;rw[O,qa0];have e:((ss.map λh=>((h.1,h.2.1):Bx)).map Bx.d).map CV.g=(ss.map λh=>((h.1,h.2.1):Bx)).map (CV.g ∘ Bx.d):=by rw[qd2]
 show((aP ch (((ss.map λh=>((h.1,h.2.1):Bx)).map Bx.d).map CV.g)).bind _)=_;rw[e,eY,qa0,if_pos (by rw[di];exact k7 (by simpa[qb1] using U)),vQ];simp[bxK,qb1]
theorem vS(hc:cs≠[])(hs:ss≠[])(hl:cs.length+ss.length<=100):eCo .v [ψ] (iE (e2 .v oAdd.g (eIx (eV 1) (eK (.int 0))) (eIx (eV 1) (eK (.int 1))))) (bnd (.one 0)) (gm (eIx (eV 0) (eK (.int 2)))) (eIx (eV 0) (eK (.int 0))) (slH cs ss R bg ks inc) ch=ς (.g (.e (((cs++ss).filter λh=>h.2.2).map λh=>.str h.1)),ch):=by
 have hi:iE (e2 .v oAdd.g (eIx (eV 1) (eK (.int 0))) (eIx (eV 1) (eK (.int 1)))) (slH cs ss R bg ks inc) ch=ς ((cs++ss).map Hd.d,ch):=by
  have O:e2 .v oAdd.g (eIx (eV 1) (eK (.int 0))) (eIx (eV 1) (eK (.int 1))) (slH cs ss R bg ks inc) ch=ς (.g (.t ((cs++ss).map Hd.d)),ch):=by
   have U:oAdd.g (.t (cs.map Hd.d)) (.t (ss.map Hd.d))=ς (.f (.t ((cs++ss).map Hd.d))):=by show orO eM iA _ _=_;unfold orO eM;simp[qb7,hc,hs,show cs.length+ss.length<=16777216 by lia]
   rw[o8 (x:=.g (.t (cs.map Hd.d))) (y:=.g (.t (ss.map Hd.d))) (ch1:=ch) (ch2:=ch) rfl rfl rfl rfl U];rfl
  unfold iE;rw[O];rfl
 unfold eCo;rw[hi,qa0];have:=bU (pt:=.one 0) (ft:=gm (eIx (eV 0) (eK (.int 2)))) (fe:=eIx (eV 0) (eK (.int 0))) (δ:=gC [ψ] (slH cs ss R bg ks inc)) (ch:=ch) (f:=Hd.d) (g:=λh:Hd=>.str h.1) (p:=λh:Hd=>h.2.2) (l:=cs++ss) λh _=>⟨_,rfl,by simp! only[gC,Hd.d];simp! [],λ_=>rfl⟩
 rw[this,qa0];dsimp only;rw[if_pos (by rw[qa2,qb7];have:=ql6 (λh:Hd=>h.2.2) (cs++ss);rw[qc4]at this;lia),bO];rfl
theorem mG(O:(ks.map (·.1)).Nodup):eDc .v (eIx (eV 2) (eK (.int 1))) (slH cs ss R bg ks inc) ch=ς (.g (.dct (ks.map λk=>.inl k.1) (ks.map λk=>.t (k.2.map .str))),ch):=by
 have W:eIx (eV 2) (eK (.int 1)) (slH cs ss R bg ks inc) ch=ς (.g (.t (ks.map Kp'.d)),ch):=rfl
 have hp:∀ks:η Kp',aP ch ((ks.map Kp'.d).map .g)=ς (dp (ks.map λk=>(.inl k.1,.t (k.2.map .str)))):=λks=>by
  induction ks with
  |nil=>rfl
  |cons k ks U=>show(b9 ch (.g (Kp'.d k))).bind _=_;have h1:b9 ch (.g (Kp'.d k))=ς (.inl k.1,.g (.t (k.2.map .str))):=rfl;rw[h1,qa0];show((aP ch ((ks.map Kp'.d).map .g)).map _)=_;rw[U];rfl
 unfold eDc;rw[W,qa0];show((aP ch ((ks.map Kp'.d).map .g)).bind _)=_
 rw[hp,qa0,if_pos (by
  rw[di,qd2];have e:(ks.map ((λp:Key×Dt=>p.1) ∘ λk:Kp'=>(.inl k.1,.t (k.2.map .str))))=(ks.map (·.1)).map qj6:=by simp[qb1]
  rw[e];exact qm6 _ (λa b h q=>h (qj6.inj q)) O),vQ]
 simp[qb1]
noncomputable def sgH(τ:Nat->Nat)(m i:Nat):Nat:=match i with
 |0=>0
 |1=>1+τ 0
 |2=>m+1
 |3=>m+3
 |4=>1+τ 1
 |5=>1+τ 2
 |6=>1+τ 3
 |7=>1+τ 4
 |8=>m+2
 |9=>1+τ 5
 |10=>1+τ 6
 |11=>1+τ 7
 |12=>1+τ 8
 |i+13=>1+τ (i+9)
noncomputable def sJ(k:Nat):Nat:=match k with
 |0=>1
 |1=>4
 |2=>5
 |3=>6
 |4=>7
 |5=>9
 |6=>10
 |7=>11
 |8=>12
 |k+9=>k+13
theorem vT{τ:Nat->Nat}{n i:Nat}(hi:i<n+13):((i=0/\sgH τ m i=0)\/(i=2/\sgH τ m i=m+1)\/(i=3/\sgH τ m i=m+3)\/(i=8/\sgH τ m i=m+2))\/∃k,k<n+9/\i=sJ k/\sgH τ m i=1+τ k:=by
 rcases i with _|_|_|_|_|_|_|_|_|_|_|_|_|i
 .exact .inl (.inl ⟨rfl,rfl⟩)
 .exact .inr ⟨0,Θ,rfl,rfl⟩
 .exact .inl (.inr (.inl ⟨rfl,rfl⟩))
 .exact .inl (.inr (.inr (.inl ⟨rfl,rfl⟩)))
 .exact .inr ⟨1,Θ,rfl,rfl⟩
 .exact .inr ⟨2,Θ,rfl,rfl⟩
 .exact .inr ⟨3,Θ,rfl,rfl⟩
 .exact .inr ⟨4,Θ,rfl,rfl⟩
 .exact .inl (.inr (.inr (.inr ⟨rfl,rfl⟩)))
 .exact .inr ⟨5,Θ,rfl,rfl⟩
 .exact .inr ⟨6,Θ,rfl,rfl⟩
 .exact .inr ⟨7,Θ,rfl,rfl⟩
 .exact .inr ⟨8,Θ,rfl,rfl⟩
 .exact .inr ⟨i+9,Θ,rfl,rfl⟩
theorem yA:F17 [.ref 0,I 0] (stC cs ss bg)=ς (.g (.t (h4++[.e (bg.map λs=>Bx.d (s,0)),.e []])),stC cs ss bg):=by unfold stC;generalize (bg.map λs=>Bx.d (s,0))=L;simp! only[q17,h4];simp! []
theorem yB:F19 [.ref 0] (stC cs ss bg)=ς (I 0,stC cs ss bg):=rfl
theorem vU (hcn:cs≠[]) (hs:ss≠[]) (hz:cs.length+ss.length<=100) (hb:bg.length<=100) (hR:R.length<=1000) (hn:((cs++ss).map (·.1)).Nodup) (hv:∀ h∈ss,0<=h.2.1/\h.2.1<=1000) (hk:(ks.map (·.1)).Nodup) :
  ∃B σ,F21 [.ref 0,.g (pgm cs ss R),.g (cod bg ks),.own ξ (.e inc)] [.ins 3 []]=ς (.g .non,B)/\At σ (hc (shC cs++shS ss) ⟨fx cs ss R ks inc,[Sm.d .wake],h4,h4,bg.map λs=>Bx.d (s,0),[],[],[],0,.non,[],ξ,0⟩ ψ (tlC cs++tlS ss)) B/\σ 0=0:=by
 have hns:(ss.map (·.1)).Nodup:=by rw[qd3,qf4]at hn;exact hn.2.1
 have⟨O,τ,k1,k2,k3⟩:=vP (R:=R) (bg:=bg) hcn hs hz hb hn hv;have hSR:0<O.length:=by have:=k2.lt (i:=0) (by rw[cI];lia);lia
 obtain⟨U,Y⟩:∃U:η CV,U=[.g (.t (R.map Rw.d)),.g (.e (bP 0 R)),.g (.dct (ss.map λh=>.inr h.1) (ss.map λh=>.int h.2.1)),.g (.e (((cs++ss).filter λh=>h.2.2).map λh=>.str h.1)),.g (.dct (ks.map λk=>.inl k.1) (ks.map λk=>.t (k.2.map .str))),.g (.e inc)]:=⟨_,rfl⟩;obtain⟨S',hS'⟩:∃S':CH,S'=O.map (rnO (1 + ·)):=⟨_,rfl⟩;have W:U.length=6:=by rw[Y];rfl
 have Z:S'.length=O.length:=by rw[hS',qa2]
 -- the six fixed parts
 have a1:=fZ (k:=0) (fs:=[]) (e:=eIx (eV 1) (eK (.int 2))) (d:=.t (R.map Rw.d)) (δ:=slH cs ss R bg ks inc) rfl rfl rfl Ω;have a2:=fZ (k:=1) (fs:=[.g (.t (R.map Rw.d))]) (e:=eCa 1 F12 (aCn (eV 1) aNl)) (d:=.e (bP 0 R)) (δ:=slH cs ss R bg ks inc) rfl (by show kCa 1 F12 [.g (pgm cs ss R)] (slH cs ss R bg ks inc) _=_;unfold kCa;rw[if_pos ⟨rfl,rfl⟩];exact pP hR) rfl Ω;have a3:=fZ (k:=2) (fs:=[.g (.t (R.map Rw.d)),.g (.e (bP 0 R))]) (δ:=slH cs ss R bg ks inc) rfl (vR (R:=R) (bg:=bg) (ks:=ks) (inc:=inc) (cs:=cs) hns Θ) rfl Ω;have a4:=fZ (k:=3) (fs:=[.g (.t (R.map Rw.d)),.g (.e (bP 0 R)),.g (.dct (ss.map λh=>.inr h.1) (ss.map λh=>.int h.2.1))]) (δ:=slH cs ss R bg ks inc) rfl (vS (R:=R) (bg:=bg) (ks:=ks) (inc:=inc) hcn hs hz) rfl Ω;have a5:=fZ (k:=4) (fs:=[.g (.t (R.map Rw.d)),.g (.e (bP 0 R)),.g (.dct (ss.map λh=>.inr h.1) (ss.map λh=>.int h.2.1)),.g (.e (((cs++ss).filter λh=>h.2.2).map λh=>.str h.1))]) (δ:=slH cs ss R bg ks inc) rfl (mG (R:=R) (bg:=bg) (inc:=inc) (cs:=cs) (ss:=ss) hk) rfl Ω;have a6:=fZ (k:=5) (fs:=[.g (.t (R.map Rw.d)),.g (.e (bP 0 R)),.g (.dct (ss.map λh=>.inr h.1) (ss.map λh=>.int h.2.1)),.g (.e (((cs++ss).filter λh=>h.2.2).map λh=>.str h.1)),.g (.dct (ks.map λk=>.inl k.1) (ks.map λk=>.t (k.2.map .str)))]) (e:=eB .v bList.g (aCn (eV 3) aNl)) (d:=.e inc) (δ:=slH cs ss R bg ks inc) rfl rfl rfl Ω;rwa[qm5,qp8]at a1 a2 a3 a4 a5 a6;rw[<- Y]at a6
 -- the store
 have m7:=gH (F:=F13) (c:=2) (n:=3) (ch:=[.ins 3 U]) (δ:=slH cs ss R bg ks inc) (fs:=aCn (eV 1) (aCn (eIx (eV 2) (eK (.int 0))) aNl)) (ds:=[pgm cs ss R,.t (bg.map .str)]) (ai _) rfl rfl k1 hSR
 have a7:sFl 3 6 (eV 0) (eMk 2 3 F13 (aCn (eV 1) (aCn (eIx (eV 2) (eK (.int 0))) aNl))) (slH cs ss R bg ks inc) [.ins 3 U]=ς (.nx (slH cs ss R bg ks inc) (.ins 3 (U++[.ref 1])::S')):=by unfold sFl;rw[m7,qa0,hS'];simp[eV,lent,cO,CV.sol,W]
 -- the hand
 have m8:=gH (F:=F14) (c:=0) (n:=1) (ch:=.ins 3 (U++[.ref 1])::S') (δ:=slH cs ss R bg ks inc) (fs:=aNl) (ds:=[]) (a':=[.ins 0 [.ref 1,.g (.bl ξ)],.dK []]) (ai _) rfl rfl rfl Ξ
 have a8:sFl 3 7 (eV 0) (eMk 0 1 F14 aNl) (slH cs ss R bg ks inc) (.ins 3 (U++[.ref 1])::S')=ς (.nx (slH cs ss R bg ks inc) (.ins 3 (U++[.ref 1,.ref (S'.length+1)])::(S'++[.ins 0 [.ref (S'.length+2),.g (.bl ξ)],.dK []]))):=by unfold sFl;rw[m8,qa0];simp[eV,lent,cO,CV.sol,W,rnO,rn,rnP]
 obtain⟨H,hH⟩:∃H:CH,H=S'++[.ins 0 [.ref (S'.length+2),.g (.bl ξ)],.dK []]:=⟨_,rfl⟩;rw[<- hH]at a8;have hHl:H.length=S'.length+2:=by rw[hH];simp
 have a9:sFl 3 8 (eV 0) (eK (.int 0)) (slH cs ss R bg ks inc) (.ins 3 (U++[.ref 1,.ref (S'.length+1)])::H)=ς (.nx (slH cs ss R bg ks inc) (.ins 3 (U++[.ref 1,.ref (S'.length+1),I 0])::H)):=by simp[sFl,eK,eV,lent,cO,CV.sol,W]
 have a10:sFl 3 9 (eV 0) (eK .non) (slH cs ss R bg ks inc) (.ins 3 (U++[.ref 1,.ref (S'.length+1),I 0])::H)=ς (.nx (slH cs ss R bg ks inc) (.ins 3 (U++[.ref 1,.ref (S'.length+1),I 0,.g .non])::H)):=by simp[sFl,eK,eV,lent,cO,CV.sol,W]
 -- the plan
 have emb:∀X L,Em (1 + ·) O (X::(S'++L))->True:=λ_ _ _=>trivial
 have atS:∀(X:CO)(L:CH),At (λi=>1+τ i) (stC cs ss bg) (X::(S'++L)):=λX L=>⟨λi j hi hj e=>k2.inj i j hi hj (by have e:1+τ i=1+τ j:=e;lia),λ{i o} hi=>by have h1:=k2.get hi;show(X::(S'++L))[1+τ i]?=_;rw[zf3,qd1,gL (by rw[Z];exact aj h1),hS',qa9,h1,qb2,o6]⟩
 obtain⟨X,hX⟩:∃X:CO,X=.ins 3 (U++[.ref 1,.ref (S'.length+1),I 0,.g .non]):=⟨_,rfl⟩;have atH:At (λi=>1+τ i) (stC cs ss bg) (X::H):=by rw[hH];exact atS _ _
 have cl0':∀as:η Dt,(CV.ref 0::as.map .g).all (clV (stC cs ss bg).length)=θ:=λas=>by simp[clV,cI]
 have pf:F19 [.ref 1] (X::H)=ς (I 0,X::H):=by have:=atH.pure (F:=F19) (args:=[.ref 0]) (ai _) vN (cl0' []) yB;rwa[rnA,qa3,qg0,rn,k3]at this;exact this
 have pp:F17 [.ref 1,I 0] (X::H)=ς (.g (.t (h4++[.e (bg.map λs=>Bx.d (s,0)),.e []])),X::H):=by have:=atH.pure (F:=F17) (args:=[.ref 0,I 0]) (ai _) vN (cl0' [.int 0]) yA;rwa[rnA,qa3,qg0,rn,k3]at this;exact this
 have h1:∃f,(X::H)[1]?=ς (.ins 2 f):=by have:=atH.get (i:=0) rfl;rw[k3]at this;exact⟨_,this⟩
 have⟨fst,h1⟩:=h1;have h0:(X::H)[0]?=ς (.ins 3 (U++[.ref 1,.ref (S'.length+1),I 0,.g .non])):=by rw[hX];rfl
 have h06:(U++[.ref 1,.ref (S'.length+1),I 0,.g .non])[6]?=ς (.ref 1):=by rw[Y];rfl
 obtain⟨Q,hQ⟩:∃Q:CH,Q=X::H:=⟨_,rfl⟩;rw[<- hQ]at h0 h1 pf pp
 have m21':F20 [.ref 0] Q=ς (I 0,Q):=by simp! only[q20];simp[lent,h0,h06,h1,CV.old,pf,CV.sol]
 have m19':F18 [.ref 0,I 0] Q=ς (.g (.t (h4++[.e (bg.map λs=>Bx.d (s,0)),.e []])),Q):=by simp! only[q18];simp[lent,h0,h06,h1,CV.old,pp,CV.sol]
 have m17:=re (ch:=X::H) (a:=.int 0) (b:=.int 0) (c:=.int 0) (d:=.int 0) (e:=.e (bg.map λs=>Bx.d (s,0))) (ts:=[]) (by rw[qb7];decide);have hXl:(X::H).length=S'.length+3:=by simp[hHl]
 rw[hXl]at m17;have m17':F16 [.g (.t (h4++[.e (bg.map λs=>Bx.d (s,0)),.e []]))] (X::H)=ς (.ref (S'.length+3),X::H++[dl [Sm.d .wake]]):=m17
 have a11:sFl 3 10 (eV 0) (eCa 1 F16 (aCn (eMe 3 2 F18 (eV 0) (aCn (eMe 3 1 F20 (eV 0) aNl) aNl)) aNl)) (slH cs ss R bg ks inc) (X::H)=ς (.nx (slH cs ss R bg ks inc) (.ins 3 (U++[.ref 1,.ref (S'.length+1),I 0,.g .non,.ref (S'.length+3)])::(H++[dl [Sm.d .wake]]))):=by
  have he:eCa 1 F16 (aCn (eMe 3 2 F18 (eV 0) (aCn (eMe 3 1 F20 (eV 0) aNl) aNl)) aNl) (slH cs ss R bg ks inc) (X::H)=ς (.ref (S'.length+3),X::H++[dl [Sm.d .wake]]):=by rw[<- hQ]at m17' ⊢;rwa[eCa,kCa,aCn,eMe,aNl,eV];simp[lent,h0,CV.old,m21',m19',m17']
  unfold sFl;rw[he,qa0,hX];simp[eV,lent,cO,CV.sol,W]
 refine⟨_,sgH τ O.length,by rw[q21];rw[hX]at a11;exact nM (av a1 (av a2 (av a3 (av a4 (av a5 (av a6 (av a7 (av a8 (av a9 (av a10 (av a11 rfl))))))))))),?_,rfl⟩;have hBH:H++[dl [Sm.d .wake]]=S'++[.ins 0 [.ref (O.length+2),.g (.bl ξ)],.dK [],dl [Sm.d .wake]]:=by rw[hH,Z];simp
 rw[hBH,Z];have A:=atS (.ins 3 (U++[.ref 1,.ref (O.length+1),I 0,.g .non,.ref (O.length+3)])) [.ins 0 [.ref (O.length+2),.g (.bl ξ)],.dK [],dl [Sm.d .wake]];obtain⟨B,hB⟩:∃B:CH,B=.ins 3 (U++[.ref 1,.ref (O.length+1),I 0,.g .non,.ref (O.length+3)])::(S'++[.ins 0 [.ref (O.length+2),.g (.bl ξ)],.dK [],dl [Sm.d .wake]]):=⟨_,rfl⟩;rw[<- hB]at A ⊢
 have tlB:∀j,B[O.length+1+j]?=([.ins 0 [.ref (O.length+2),.g (.bl ξ)],.dK [],dl [Sm.d .wake]]:CH)[j]?:=λj=>by rw[hB,show O.length+1+j=O.length+j+1 by lia,qd1,<- Z];exact vO
 have hr:rnP (sgH τ O.length) (ac 13 (shC cs++shS ss))=rnP (λi=>1+τ i) (ac 9 (shC cs++shS ss)):=by
  have:∀{sh:Sh}{a b:Nat},(∀k,sgH τ O.length (a+13+k)=1+τ (a+9+k))->True:=λ_=>trivial
  have g:∀(sh:Sh)(a:Nat),rnP (sgH τ O.length) (ac (a+13) sh)=rnP (λi=>1+τ i) (ac (a+9) sh):=λsh=>by
   induction sh with
   |nil=>intro a;rfl
   |cons p r ih=>intro a;have:=ih (a+1);rw[show a+1+13=a+13+1 by lia,show a+1+9=a+9+1 by lia]at this;rwa[rnP,ac,qa3,rn]at this ⊢;rw[this];rfl
  exact g _ 0
 have gt:=λk o h=>A.get (i:=k) (o:=o) h
 refine mt (λi j hi hj e=>?_) ?_ (gt 0 _ rfl) ?_ ?_ ?_ (gt 2 _ rfl) (gt 3 _ rfl) (gt 4 _ rfl) ?_ ?_ (gt 6 _ rfl) (gt 7 _ rfl) (gt 8 _ rfl) λi o hi=>?_
 .have hN:(az ψ (tlC cs++tlS ss)).length=cs.length+ss.length:=by simp[az,tlC,tlS]
  rw[hN]at hi hj;have lt:∀k,k<cs.length+ss.length+9->τ k<O.length:=λk hk=>k2.lt (by rw[cI];exact hk)
  rcases vT (τ:=τ) (m:=O.length) hi with hi'|⟨a,ha,rfl,ea⟩<;>rcases vT (τ:=τ) (m:=O.length) hj with hj'|⟨b,hb',rfl,eb⟩
  .rcases hi' with ⟨rfl,x⟩|⟨rfl,x⟩|⟨rfl,x⟩|⟨rfl,x⟩<;>rcases hj' with ⟨rfl,y⟩|⟨rfl,y⟩|⟨rfl,y⟩|⟨rfl,y⟩<;>first|rfl|(rw[x,y]at e;lia)
  .have:=lt b hb';rw[eb]at e;rcases hi' with ⟨rfl,x⟩|⟨rfl,x⟩|⟨rfl,x⟩|⟨rfl,x⟩<;>(rw[x]at e;lia)
  .have:=lt a ha;rw[ea]at e;rcases hj' with ⟨rfl,x⟩|⟨rfl,x⟩|⟨rfl,x⟩|⟨rfl,x⟩<;>(rw[x]at e;lia)
  .rw[ea,eb]at e;rw[k2.inj a b (by rw[cI];exact ha) (by rw[cI];exact hb') Θ]
 .rw[hB,Y];rwa[sgH,qg3,hO,rnO,fx,qa3,qg0,rn,lvO,k3,qp8,qm5]
 .exact tlB 0
 .exact tlB 2
 .have:=gt 1 _ rfl;rwa[rnO]at this ⊢;rw[show off ψ=13 from rfl,hr];exact this
 .exact tlB 1
 .have:=gt 5 _ rfl;rw[cM]at this;exact this
 .have hi:(tlC cs++tlS ss)[i]?=ς o:=hi;have:=gt (i+9) o hi;have⟨L,rfl⟩:=vM (qa4 hi);rw[cM]at this ⊢;exact this
end
def RwP(cs ss:η Hd):Rw->Prop
 |.op _ _ a b=>bE a/\bE b
 |.load _ n=>n∈cs.map (·.1)
 |.store n a=>n∈cs.map (·.1)/\bE a
 |.take _ n a=>n∈ss.map (·.1)/\bE a
 |.lay n a b=>n∈ss.map (·.1)/\bE a/\bE b
 |.copy _ a|.say a|.fin a=>bE a
 |.hear _|.ife _ _|.go _=>True
structure Pr(cs ss:List Hd)(R:List Rw)(bg:List Str)(ks:List Kp')(inc:List Dt):Prop where
 c0:cs≠[]
 s0:ss≠[]
 len:cs.length+ss.length<=100
 nd:((cs++ss).map (·.1)).Nodup
 cv:∀h∈cs,Vi (.int h.2.1)
 sv:∀h∈ss,0<h.2.1/\h.2.1<=1000
 rl:0<R.length/\R.length<=1000
 row:∀r∈R,RwP cs ss r
 lead:∀(i:Nat) r p,R[i]?=ς r->jQ i r p->∃j:Nat,p=j/\j<R.length
 bn:bg.Nodup/\bg.length<=6
 kn:(ks.map (·.1)).Nodup
 kb:∀k∈ks,k.2.Nodup/\k.2.length<=6
 inc:∀d∈inc,Vi d
section
variable{cs ss:η Hd}{R:η Rw}{bg:η Str}{ks:η Kp'}{inc:η Dt}
theorem ej{α:Type}{l:η α}{a:α}(h:a∈l):∃k:Nat,l[k]?=ς a:=qt5.mp h
theorem vp_c{n:Str}(h:n∈cs.map (·.1)):Vp (shC cs++shS ss) n 0:=by
 have⟨a,O,rfl⟩:=qb8.mp h;have⟨k,U⟩:=ej O;refine⟨k,1,?_,Θ⟩;have:(shC cs)[k]?=ς (a.1,1):=by simp[shC,U]
 rw[gL (aj this)];exact this
theorem vp_s(hs:∀h∈ss,0<h.2.1/\h.2.1<=1000){n:Str}(h:n∈ss.map (·.1)):Vp (shC cs++shS ss) n 0:=by have⟨a,O,rfl⟩:=qb8.mp h;have⟨k,U⟩:=ej O;have:=hs a O;refine⟨(shC cs).length+k,a.2.1.toNat,?_,Θ⟩;rw[gR Θ,qe9];simp[shS,U]
theorem n5:∀{ss:η Hd}{k:Nat}{a:Hd},(ss.map (·.1)).Nodup->ss[k]?=ς a->am (ss.map λh=>(qj1 h.1:Key)) (ss.map λh=>.int h.2.1) (qj1 a.1)=ς (.int a.2.1)
 |[],_,_,_,h=>by simp at h
 |b::ss,0,a,_,h=>by cases h;simp[am]
 |b::ss,k+1,a,Y,h=>by
  have O:=qc8.mp Y;have W:a.1∈ss.map (·.1):=qb8.mpr ⟨a,qa4 h,rfl⟩;have:¬ b.1=a.1:=λe=>O.1 (by show b.1∈_;rw[e];exact W)
  have U:=n5 (ss:=ss) (k:=k) O.2 ‹h›;rwa[qa3,am,qo8,this,if_false];exact U
theorem sh_s(P:Pr cs ss R bg ks inc){n:Str}(h:n∈ss.map (·.1)):nW (fx cs ss R ks inc) (shC cs++shS ss) n:=by
 have⟨a,O,rfl⟩:=qb8.mp h;have⟨k,U⟩:=ej O;have W:=P.sv a O;refine⟨(shC cs).length+k,a.2.1.toNat,?_,Θ,?_⟩
 .rw[gR Θ,qe9];simp[shS,U]
 .have:=n5 (by have:=P.nd;rw[qd3,qf4]at this;exact this.2.1) U;rw[show((a.2.1.toNat:Nat):Int)=a.2.1 by lia];exact this
theorem Pr.xr(P:Pr cs ss R bg ks inc):XR (fx cs ss R ks inc) R (shC cs++shS ss):=by
 refine⟨⟨?_,λd O=>?_,P.inc⟩,rfl,λi r h=>?_,λr Z=>?_,P.lead,λk d h=>?_⟩
 .have:(shC cs++shS ss).map (·.1)=(cs++ss).map (·.1):=by simp[shC,shS,qb1]
  rw[this];exact P.nd
 .rwa[fx,qb8]at O;have⟨h,_,rfl⟩:=O;exact⟨_,rfl⟩
 .have:=pN (k:=0) h;rw[zc5]at this;exact this
 .have:=P.row r Z;cases r with
  |op x sg a b=>exact this
  |load x n=>exact vp_c this
  |store n a=>exact⟨vp_c this.1,this.2⟩
  |take x n a=>exact⟨sh_s P this.1,this.2⟩
  |lay n a b=>exact⟨sh_s P this.1,this.2⟩
  |copy x a=>exact this
  |say a=>exact this
  |fin a=>exact this
  |hear x=>trivial
  |ife x t=>trivial
  |go t=>trivial
 .have:∀{ks:η Kp'},am (ks.map λk=>(qj6 k.1:Key)) (ks.map λk=>.t (k.2.map .str)) k=ς d->∃q∈ks,d=.t (q.2.map .str):=λ{ks}=>by
   induction ks with
   |nil=>intro h;cases h
   |cons q ks Y=>
    intro h;rwa[qa3,am]at h;split at h
    .cases h;exact⟨q,.head _,rfl⟩
    .have⟨W,h1,h2⟩:=Y h;exact⟨W,.tail _ h1,h2⟩
  have⟨q,U,rfl⟩:=this h;exact⟨q.2,rfl,(P.kb q U).1,(P.kb q U).2⟩
def f0(cs:η Hd):Vf:=λn p=>match cs.find? λh=>decide (h.1=n)with
 |some h=>if p=0 then h.2.1 else 0
 |none=>0
theorem f0_c{h:Hd}(Z:(cs.map (·.1)).Nodup)(U:h∈cs):f0 cs h.1 0=h.2.1:=by
 have:cs.find? (λq=>decide (q.1=h.1))=ς h:=by
  induction cs with
  |nil=>cases U
  |cons q cs W=>
   have O:=qc8.mp Z;rcases qb9.mp U with rfl|U
   .simp[qt1]
   .have Y:¬ q.1=h.1:=λe=>O.1 (qb8.mpr ⟨h,U,e.symm⟩)
    rwa[qt1,Y,decide_false];exact W O.2 U
 unfold f0;rw[this];rfl
theorem f0_s{n:Str}{p:Nat}(h:n∉cs.map (·.1)):f0 cs n p=0:=by
 have:cs.find? (λq=>decide (q.1=n))=ψ:=by rw[List.find?_eq_none];intro q O e;exact h (qb8.mpr ⟨q,O,of_decide_eq_true e⟩)
 unfold f0;rw[this]
omit x in
theorem f0_n(O:∀h∈cs,Vi (.int h.2.1))(n:Str)(p:Nat):Vn (f0 cs n p):=by
 unfold f0;split
 .rename_i h e;split
  .exact(O h (List.mem_of_find?_eq_some e)).n
  .exact vn0
 .exact vn0
theorem iP(P:Pr cs ss R bg ks inc):(cs.map (·.1)).Nodup/\(ss.map (·.1)).Nodup/\∀h∈ss,h.1∉cs.map (·.1):=by have:=P.nd;rw[qd3,qf4]at this;exact⟨this.1,this.2.1,λh O q=>this.2.2 _ q _ (qb8.mpr ⟨h,O,rfl⟩) rfl⟩
theorem zI(P:Pr cs ss R bg ks inc):aa (shS ss) (f0 cs)=tlS ss:=by
 unfold aa shS tlS;rw[qd2];refine qe8 λh O=>?_
 show dl (row (f0 cs) (h.1,h.2.1.toNat))=_;congr 1;refine qk6 λi=>?_
 rcases qj9 i h.2.1.toNat with q|q
 .rw[nT q,f0_s ((iP P).2.2 h O),qr9,if_pos q]
 .rw[qd6 (by rw[cG];exact q),qr9,if_neg Θ]
theorem ES(P:Pr cs ss R bg ks inc):aa (shC cs++shS ss) (f0 cs)=tlC cs++tlS ss:=by
 rw[<- (zI P)];unfold aa;rw[qd3];congr 1;unfold shC tlC;rw[qd2];refine qe8 λh O=>?_
 show dl [.int (f0 cs h.1 0)]=_;rw[f0_c (iP P).1 O]
theorem zJ(P:Pr cs ss R bg ks inc){h:Hd}(Z:h∈cs++ss):gr (fx cs ss R ks inc) h.1=h.2.2:=by
 have inj:∀{l:η Hd}{q:Hd},(l.map (·.1)).Nodup->h∈l->q∈l->q.1=h.1->q=h:=λ{l}=>by
  induction l with
  |nil=>intro q _ h1;cases h1
  |cons r l ih=>
   intro q hn h1 h2 e;have O:=qc8.mp hn;rcases qb9.mp h1 with U|Y<;>rcases qb9.mp h2 with e2|W
   .rw[U,e2]
   .exact(O.1 (qb8.mpr ⟨q,W,by rw[e,U]⟩)).elim
   .exact(O.1 (qb8.mpr ⟨h,Y,by rw[<- e,e2]⟩)).elim
   .exact ih O.2 Y W e
 have e:gr (fx cs ss R ks inc) h.1=((cs++ss).filter λh=>h.2.2).any λq=>decide (q.1=h.1):=by show List.any (((cs++ss).filter λh=>h.2.2).map λh=>Dt.str h.1) (λy=>eqF y (.str h.1))=_;rw[List.any_map];rfl
 rw[e];cases t:h.2.2 with
 |true=>exact List.any_eq_true.mpr ⟨h,qr5.mpr ⟨Z,t⟩,Ξ⟩
 |false=>rw[List.any_eq_false];intro q hq w;have⟨h1,h2⟩:=qr5.mp hq;have:=inj P.nd Z h1 (of_decide_eq_true w);rw[this,t]at h2;cases h2
theorem pQ(P:Pr cs ss R bg ks inc):Nm (fx cs ss R ks inc) (shC cs++shS ss) (cs.map (·.1)) cs ss:=by
 refine⟨P.xr.X.nd,?_,λh O=>⟨?_,qb8.mpr ⟨h,O,rfl⟩,(zJ P) (qg9.mpr (.inl O))⟩,λh O=>⟨?_,?_,(zJ P) (qg9.mpr (.inr O))⟩⟩
 .have:(shS ss).map (·.1)=ss.map (·.1):=by simp[shS,qb1]
  rw[this];exact(iP P).2.1
 .have⟨k,U⟩:=ej O;have:(shC cs)[k]?=ς (h.1,1):=by simp[shC,U]
  exact⟨k,by rw[gL (aj this)];exact this⟩
 .have⟨k,U⟩:=ej O;refine⟨(shC cs).length+k,?_⟩;rw[gR Θ,qe9];simp[shS,U]
 .have⟨k,U⟩:=ej O;exact⟨k,by simp[shS,U]⟩
theorem ET(P:Pr cs ss R bg ks inc):XQ (fx cs ss R ks inc) R (cs.map (·.1)) (shS ss):=by
 have X:=P.xr
 have O:∀{n:Str},n∈ss.map (·.1)->nW (fx cs ss R ks inc) (shS ss) n:=λ{n} h=>by have⟨a,U,rfl⟩:=qb8.mp h;have⟨k,W⟩:=ej U;have hv:=P.sv a U;refine⟨k,a.2.1.toNat,by simp[shS,W],Θ,?_⟩;rw[show((a.2.1.toNat:Nat):Int)=a.2.1 by lia];exact n5 (iP P).2.1 W
 refine⟨(pQ P).ns,λn Z Y=>?_,P.inc,rfl,X.onw,λr hr=>?_⟩
 .have e:(shS ss).map (·.1)=ss.map (·.1):=by simp[shS,qb1]
  rw[e]at Y;have⟨h,hh,rfl⟩:=qb8.mp Y;exact(iP P).2.2 h hh Z
 .have:=P.row r hr;cases r with
  |take x n a=>exact⟨O this.1,this.2⟩
  |lay n a b=>exact⟨O this.1,this.2⟩
  |hear x=>trivial
  |ife x t=>trivial
  |go t=>trivial
  |_=>exact this
abbrev hs0(cs ss:η Hd)(R:η Rw)(bg:η Str)(ks:η Kp')(inc:η Dt):HS:=⟨fx cs ss R ks inc,[Sm.d .wake],h4,h4,bg.map λs=>Bx.d (s,0),[],[],[],0,.non,[],ξ,0⟩
theorem vW(P:Pr cs ss R bg ks inc):∃B σ,F21 [.ref 0,.g (pgm cs ss R),.g (cod bg ks),.own ξ (.e inc)] [.ins 3 []]=ς (.g .non,B)/\At σ (hc (shC cs++shS ss) (hs0 cs ss R bg ks inc) ψ (aa (shC cs++shS ss) (f0 cs))) B/\σ 0=0:=by rw[(ES P)];exact vU P.c0 P.s0 P.len (by have:=P.bn.2;lia) P.rl.2 P.nd (λh O=>by have:=P.sv h O;lia) P.kn
def a0(cs:η Hd):AM:=⟨0,0,0,[],λ_=>0,f0 cs⟩
def l0(bg:η Str):LS:=⟨0,0,0,0,0,bxK (bg.map λs=>(s,0)),[]⟩
theorem bv0{bg:η Str}{s:Str}:bv (bxK (bg.map λs=>(s,0))) 0 s=0:=by
 show iv 0 _=0;cases q:am ((bxK (bg.map λs=>((s,0):Bx))).map (·.1)) ((bxK (bg.map λs=>((s,0):Bx))).map (·.2)) (qj1 s)with
 |none=>rfl
 |some d=>have:=aJ q;rwa[bxK,qd2,qb8]at this;have⟨t,_,e⟩:=this;cases e;rfl
theorem yC(P:Pr cs ss R bg ks inc):Sd (fx cs ss R ks inc) (shC cs++shS ss) 10 {hs0 cs ss R bg ks inc with plan:=[]} (l0 bg) (f0 cs) (a0 cs):=by refine⟨⟨rfl,⟨_,_,_,_,rfl⟩,⟨_,_,_,_,rfl⟩,.inl rfl,by have:=P.bn.2;simp;lia,Ξ,Ξ,Ξ,rfl⟩,rfl,⟨rfl,rfl,rfl,Int.le_refl 0,rfl,rfl,funext λs=>bv0,λp hp=>?_,by have:=P.bn.2;simp[l0,bxK];lia,by simp[l0],by simp[l0],by simp[l0],rfl,f0_n P.cv,rfl,by simp[a0]⟩,λ_=>⟨rfl,rfl⟩⟩;rwa[l0,bxK,qd2,qb8]at hp;have⟨t,_,rfl⟩:=hp;exact vn0.i
theorem vX(P:Pr cs ss R bg ks inc):To (shC cs++shS ss) F51 [.ref 0] (hc (shC cs++shS ss) (hs0 cs ss R bg ks inc) ψ (aa (shC cs++shS ss) (f0 cs))) (λS l g=>Sd (fx cs ss R ks inc) (shC cs++shS ss) 10 S l g (a0 cs)/\S.res=.non):=by have U:=nR (S:=hs0 cs ss R bg ks inc) (lv:=.g .non) (rf:=ac 13 (shC cs++shS ss)) (tl:=aa (shC cs++shS ss) (f0 cs)) (a:=0) (b:=0) (c:=0) (d:=0) (l:=bg.map λs=>(s,0)) (t:=.e []) rfl (.inl rfl) rfl rfl (by simp[pgD,h4,qb1]) (by simpa[qb1] using P.bn.1);have O:=gJ (S:=hs0 cs ss R bg ks inc) (lv:=.g .non) (rf:=ac 13 (shC cs++shS ss)) (tl:=aa (shC cs++shS ss) (f0 cs)) rfl;refine⟨_,_,_,_,_,xR (.v 0 O (.v 0 U .nil)),?_,yl (l:=l0 bg) (S:={hs0 cs ss R bg ks inc with plan:=[]}) aT,rfl,(yC P),rfl⟩;simp[hc,hb,az,lvO]
end
section
variable{cs ss:η Hd}{R:η Rw}{bg:η Str}{ks:η Kp'}{inc:η Dt}
abbrev slP(cs ss:η Hd)(R:η Rw)(inc:η Dt):Sl:=[ς (.ref 0),ς (.g (pgm cs ss R)),ς (.g (.e inc))]
theorem pfl{fs:η CV}{k:Nat}{e:Fg}{c:CV}{H':CH}(U:δ[0]?=ς (ς (.ref 0)))(h:e δ (.ins 4 fs::H)=ς (c,.ins 4 fs::H'))(hc:c.sol=θ)(W:fs.length=k)(O:k<1000):sFl 4 k (eV 0) e δ (.ins 4 fs::H)=ς (.nx δ (.ins 4 (fs++[c])::H')):=by unfold sFl eV;rw[h,qa0];simp[U,lent,cO,hc,W,O]
theorem EU(P:Pr cs ss R bg ks inc):∃B σ,F22 [.ref 0,.g (pgm cs ss R),.g (.e inc)] [.ins 4 []]=ς (.g .non,B)/\At σ (pn (shS ss) ⟨fx cs ss R ks inc,[],[],bxK (cs.map λh=>(h.1,h.2.1)),0,0,0,.non⟩ (tlS ss)) B/\σ 0=0:=by
 have hnc:(cs.map (·.1)).Nodup:=by have:=P.nd;rw[qd3,qf4]at this;exact this.1
 have hns:(ss.map (·.1)).Nodup:=by have:=P.nd;rw[qd3,qf4]at this;exact this.2.1
 have hl:=P.len;have a1:=pfl (k:=0) (fs:=[]) (H:=[]) (H':=[]) (e:=eIx (eV 1) (eK (.int 2))) (c:=.g (.t (R.map Rw.d))) (δ:=slP cs ss R inc) rfl rfl rfl rfl Ω;have a2:=pfl (k:=1) (fs:=[.g (.t (R.map Rw.d))]) (H:=[]) (H':=[]) (e:=eCa 1 F12 (aCn (eV 1) aNl)) (c:=.g (.e (bP 0 R))) (δ:=slP cs ss R inc) rfl (by show kCa 1 F12 [.g (pgm cs ss R)] (slP cs ss R inc) _=_;unfold kCa;rw[if_pos ⟨rfl,rfl⟩];exact pP P.rl.2) rfl rfl Ω;have a3:=pfl (k:=2) (fs:=[.g (.t (R.map Rw.d)),.g (.e (bP 0 R))]) (H:=[]) (H':=[]) (e:=eB .v bList.g (aCn (eV 2) aNl)) (c:=.g (.e inc)) (δ:=slP cs ss R inc) rfl rfl rfl rfl Ω;have a4:=pfl (k:=3) (fs:=[.g (.t (R.map Rw.d)),.g (.e (bP 0 R)),.g (.e inc)]) (H:=[]) (H':=[.e []]) (e:=eLs .o aNl) (c:=.ref 1) (δ:=slP cs ss R inc) rfl rfl rfl rfl Ω;have a5:=pfl (k:=4) (fs:=[.g (.t (R.map Rw.d)),.g (.e (bP 0 R)),.g (.e inc),.ref 1]) (H:=[.e []]) (H':=[.e [],.dK []]) (e:=eDn .o ξ) (c:=.ref 2) (δ:=slP cs ss R inc) rfl rfl rfl rfl Ω
 have hce:∀ch:CH,eDc .o (eCo .v [ψ] (iE (eIx (eV 1) (eK (.int 0)))) (bnd (.one 0)) tYs (eTu (aCn (eIx (eV 0) (eK (.int 0))) (aCn (eIx (eV 0) (eK (.int 1))) aNl)))) (slP cs ss R inc) ch=ς (.ref ch.length,ch++[.dK (dp (bxK (cs.map λh=>(h.1,h.2.1))))]):=λch=>by
  have W:eCo .v [ψ] (iE (eIx (eV 1) (eK (.int 0)))) (bnd (.one 0)) tYs (eTu (aCn (eIx (eV 0) (eK (.int 0))) (aCn (eIx (eV 0) (eK (.int 1))) aNl))) (slP cs ss R inc) ch=ς (.g (.e ((cs.map λh=>(h.1,h.2.1)).map Bx.d)),ch):=by
   have hi:iE (eIx (eV 1) (eK (.int 0))) (slP cs ss R inc) ch=ς (cs.map Hd.d,ch):=rfl;unfold eCo;rw[hi,qa0];have:=bz (pt:=.one 0) (ft:=tYs) (fe:=eTu (aCn (eIx (eV 0) (eK (.int 0))) (aCn (eIx (eV 0) (eK (.int 1))) aNl))) (δ:=gC [ψ] (slP cs ss R inc)) (ch:=ch) (f:=Hd.d) (g:=λh:Hd=>Bx.d (h.1,h.2.1)) (l:=cs) λh _=>⟨_,rfl,rfl,rfl⟩
   rw[this,qa0];dsimp only;rw[if_pos (by rw[qa2,qb7];lia),bO,qd2];rfl
  have O:((bxK (cs.map λh=>((h.1,h.2.1):Bx))).map (·.1)).Nodup:=k7 (by simpa[qb1] using hnc);unfold eDc;rw[W,qa0];have e:((cs.map λh=>((h.1,h.2.1):Bx)).map Bx.d).map CV.g=(cs.map λh=>((h.1,h.2.1):Bx)).map (CV.g ∘ Bx.d):=by rw[qd2]
  show((aP ch (((cs.map λh=>((h.1,h.2.1):Bx)).map Bx.d).map CV.g)).bind _)=_;rw[e,eY,qa0,if_pos (by rw[di];exact O),uV O]
 obtain⟨K,hK⟩:∃K:CO,K=.dK (dp (bxK (cs.map λh=>(h.1,h.2.1)))):=⟨_,rfl⟩;have a6:=pfl (k:=5) (fs:=[.g (.t (R.map Rw.d)),.g (.e (bP 0 R)),.g (.e inc),.ref 1,.ref 2]) (H:=[.e [],.dK []]) (H':=[.e [],.dK [],K]) (c:=.ref 3) (δ:=slP cs ss R inc) rfl (by rw[hK];exact hce _) rfl rfl Ω
 have hd:=iO (f:=Hd.d) (nm:=(·.1)) (vl:=λh:Hd=>qb0 h.2.1.toNat (.int 0)) (fe:=eTu (aCn (eIx (eV 0) (eK (.int 0))) (aCn (e2 .o oMul.g (eLs .v (aCn (eK (.int 0)) aNl)) (eIx (eV 0) (eK (.int 1)))) aNl))) (fi:=iE (eIx (eV 1) (eK (.int 1)))) (src:=[ψ]) (δ:=slP cs ss R inc) (ch:=[.ins 4 [.g (.t (R.map Rw.d)),.g (.e (bP 0 R)),.g (.e inc),.ref 1,.ref 2,.ref 3],.e [],.dK [],K]) (l:=ss) (λh hh ch=>by
  have⟨h1,h2⟩:=P.sv h hh;have U:0<=h.2.1:=by lia
  simp! only[Hd.d];simp! [oMul,iY,ma,U,h2,mE]) rfl rfl P.s0 (by rw[qb7];lia) hns
 have Y:=pfl (k:=6) (fs:=[.g (.t (R.map Rw.d)),.g (.e (bP 0 R)),.g (.e inc),.ref 1,.ref 2,.ref 3]) (H:=[.e [],.dK [],K]) (H':=.e []::.dK []::K::(blk 4 (ss.map λh=>(h.1,qb0 h.2.1.toNat (.int 0)))++[.e (rfs 5 ss.length)]++[.dK (prs 4 (ss.map λh=>(h.1,qb0 h.2.1.toNat (.int 0))))])) (c:=.ref (4+2*ss.length+1)) (δ:=slP cs ss R inc) rfl hd rfl rfl Ω;obtain⟨H,Z⟩:∃H:CH,H=blk 4 (ss.map λh=>(h.1,qb0 h.2.1.toNat (.int 0)))++[.e (rfs 5 ss.length)]++[.dK (prs 4 (ss.map λh=>(h.1,qb0 h.2.1.toNat (.int 0))))]:=⟨_,rfl⟩;rw[<- Z]at Y;rwa[qm5,qp8]at a1 a2 a3 a4 a5 a6 Y;have a8:aL (sFl 4 7 (eV 0) (eK (.int 0))) (aL (sFl 4 8 (eV 0) (eK (.int 0))) (aL (sFl 4 9 (eV 0) (eK (.int 0))) (aL (sFl 4 10 (eV 0) (eK .non)) dQ))) (slP cs ss R inc) (.ins 4 [.g (.t (R.map Rw.d)),.g (.e (bP 0 R)),.g (.e inc),.ref 1,.ref 2,.ref 3,.ref (4+2*ss.length+1)]::.e []::.dK []::K::H)=ς (.nx (slP cs ss R inc) (.ins 4 [.g (.t (R.map Rw.d)),.g (.e (bP 0 R)),.g (.e inc),.ref 1,.ref 2,.ref 3,.ref (4+2*ss.length+1),I 0,I 0,I 0,.g .non]::.e []::.dK []::K::H)):=rfl;refine⟨_,λi=>if i<4 then i else if i=4 then 4+2*ss.length+1 else 4+2*(i-5),by rw[q22];exact nM (av a1 (av a2 (av a3 (av a4 (av a5 (av a6 (av Y a8))))))),?_,rfl⟩;refine⟨λi j hi hj e=>?_,λ{i o} hi=>?_⟩
 .rw[ei]at hi hj;have:(tlS ss).length=ss.length:=by simp[tlS]
  split at e<;>split at e<;>(try split at e)<;>(try split at e)<;>lia
 .rcases i with _|_|_|_|_|i
  .cases hi;rfl
  .cases hi;rfl
  .cases hi;rfl
  .cases hi;show ς K=_;rw[hK];rwa[rnO,ee]
  .cases hi;show(_::_::_::_::H)[4+2*ss.length+1]?=_;rw[show 4+2*ss.length+1=2*ss.length+1+1+1+1+1 by lia];rwa[qd1];rw[Z,qe1 (by simp[bj])];rwa[qc4,bj,qa2,qi7,zf5,qg3,rnO];unfold shS;rw[fj (vl:=λh:Hd=>qb0 h.2.1.toNat (.int 0)) (n:=4)];intro k hk;rw[if_neg Θ,if_neg Θ];lia
  .have hi:(tlS ss)[i]?=ς o:=hi;rwa[tlS,qa9]at hi;have⟨h,h1,rfl⟩:=mS hi;have hb:=(iM (n:=4) (ps:=ss.map λh=>(h.1,qb0 h.2.1.toNat (.int 0))) (k:=i) (p:=(h.1,qb0 h.2.1.toNat (.int 0))) (by rw[qa9,h1];rfl)).1;rw[if_neg Θ,if_neg Θ,cM,show 4+2*(i+1+1+1+1+1-5)=2*i+1+1+1+1 by lia];rwa[qd1];rw[Z,qd8,gL (aj hb)];exact hb
abbrev p0(cs ss:η Hd)(R:η Rw)(ks:η Kp')(inc:η Dt):PN:=⟨fx cs ss R ks inc,[],[],bxK (cs.map λh=>(h.1,h.2.1)),0,0,0,.non⟩
theorem vY(P:Pr cs ss R bg ks inc):∃B σ,F22 [.ref 0,.g (pgm cs ss R),.g (.e inc)] [.ins 4 []]=ς (.g .non,B)/\At σ (pn (shS ss) (p0 cs ss R ks inc) (aa (shS ss) (f0 cs))) B/\σ 0=0:=by rw[zI P];exact EU P
theorem vZ:∀{cs:η Hd}{h:Hd},(cs.map (·.1)).Nodup->h∈cs->am ((bxK (cs.map λh=>((h.1,h.2.1):Bx))).map (·.1)) ((bxK (cs.map λh=>((h.1,h.2.1):Bx))).map (·.2)) (qj1 h.1)=ς (.int h.2.1)
 |[],_,_,h=>by cases h
 |b::cs,a,U,h=>by
  have O:=qc8.mp U;rwa[bxK,qa3,am,qo8];rcases qb9.mp h with e|m
  .rw[if_pos (by rw[e]),e]
  .rw[if_neg (λe=>O.1 (qb8.mpr ⟨a,m,e.symm⟩))];exact vZ O.2 m
theorem EV(P:Pr cs ss R bg ks inc):PA (fx cs ss R ks inc) (cs.map (·.1)) 210 (p0 cs ss R ks inc) (a0 cs):=⟨rfl,rfl,by simp[a0],rfl,Ξ,Ξ,λn U=>by have⟨h,O,rfl⟩:=qb8.mp U;show _=ς (Dt.int (f0 cs h.1 0));rw[f0_c (iP P).1 O];exact vZ (iP P).1 O,by have:=P.len;simp[bxK];lia,rfl,rfl,Int.le_refl 0,rfl,f0_n P.cv⟩
end
theorem CW{pt:Pt}{g:Fs}{d:Dt}{r:η Dt}{ch1:CH}(h1:bnd pt d δ=ς δ')(h2:g δ' ch=ς (.bk δ2 ch1)):cZ (bnd pt) g (d::r) δ ch=ς (.nx δ2 ch1):=by show(bnd pt d δ).bind _=_;rw[h1,qa0,h2];rfl
def Pair(sh tn:Sh)(h p:Nat)(S:HS)(l:LS)(g:Vf)(P:PN)(f:Vf)(b:CH):Prop:=∃ ρ σ:Nat->Nat,At ρ (hz sh S l g) b/\At σ (pn tn P (aa tn f)) b/\(∀i j,i<(hz sh S l g).length->j<(pn tn P (aa tn f)).length->ρ i≠σ j)/\ρ 0=h/\σ 0=p
section
variable{sh tn:Sh}{h p:Nat}{S S':HS}{l l':LS}{g g':Vf}{P P':PN}{f f':Vf}{b:CH}{Q:HS->LS->Vf->Prop}
theorem Pair.ext(w:Pair sh tn h p S l g P f b)(M:CH):Pair sh tn h p S l g P f (b++M):=by have⟨ρ,σ,A1,A2,d,O,e2⟩:=w;exact⟨ρ,σ,bC A1 M,bC A2 M,d,O,e2⟩
theorem Pair.house{F:Fd}(w:Pair sh tn h p S l g P f b)(U:TrD F)(t:To sh F (.ref 0::ds.map .g) (hz sh S l g) Q):∃S' l' g' b',Q S' l' g'/\F (.ref h::ds.map .g) b=ς (.g .non,b')/\Pair sh tn h p S' l' g' P f b':=by have⟨ρ,σ,A1,A2,d,rfl,rfl⟩:=w;have⟨S',l',g',ρ',b',h1,h2,v⟩:=To.mv U t A1;exact⟨S',l',g',b',h1,h2,ρ',σ,v.at_,v.fr.at A2 d,v.sb.apart d λj O=>A2.lt O,v.zero,rfl⟩
theorem Pair.plain{F:Fd}(w:Pair sh tn h p S l g P f b)(Y:TrD F)(Z:F [.ref 0] (pn tn P (aa tn f))=ς (.g .non,pn tn P' (aa tn f'))):∃b',F [.ref p] b=ς (.g .non,b')/\Pair sh tn h p S l g P' f' b':=by
 have⟨ρ,σ,A1,A2,d,rfl,rfl⟩:=w;have r:=Rn.here (F:=F) (args:=[.ref 0]) Y (zG aT) (zH (l:=[])) Z (by rw[ei,ei,bI,bI];exact nL _) (by rw[ei];lia);have⟨U,b',W,v⟩:=r.mv A2;have d':∀i j,i<(pn tn P (aa tn f)).length->j<(hz sh S l g).length->σ i≠ρ j:=λi j hi O e=>d j i O hi e.symm
 exact⟨b',W,ρ,U,v.fr.at A1 d',v.at_,λi j hi O e=>v.sb.apart d' (λj O=>A1.lt O) j i O hi e.symm,rfl,v.zero⟩
theorem Pair.hp{F:Fd}{d:Dt}(w:Pair sh tn h p S l g P f b)(O:TrD F)(U:F (.ref 0::ds.map .g) (hz sh S l g)=ς (.g d,hz sh S l g)):F (.ref h::ds.map .g) b=ς (.g d,b):=by have⟨ρ,σ,A1,A2,_,rfl,rfl⟩:=w;exact At.pur A1 O U
theorem Pair.pp{F:Fd}{d:Dt}(w:Pair sh tn h p S l g P f b)(O:TrD F)(U:F (.ref 0::ds.map .g) (pn tn P (aa tn f))=ς (.g d,pn tn P (aa tn f))):F (.ref p::ds.map .g) b=ς (.g d,b):=by have⟨ρ,σ,A1,A2,_,rfl,rfl⟩:=w;exact At.purP A2 O U
theorem Pair.h1(w:Pair sh tn h p S l g P f b):∃q,b[h]?=ς (.ins 3 q):=by have⟨ρ,σ,A1,A2,_,rfl,rfl⟩:=w;exact bG A1
theorem Pair.h2(w:Pair sh tn h p S l g P f b):∃q,b[p]?=ς (.ins 4 q):=by have⟨ρ,σ,A1,A2,_,rfl,rfl⟩:=w;exact jS A2
end
abbrev lwE(s0 s1 s4 s5 s6:ζ CV)(nm pg:Dt)(h p:Nat)(a9 a10 a11:ζ CV):Sl:=[s0,s1,ς (.g nm),ς (.g pg),s4,s5,s6,ς (.ref h),ς (.ref p),a9,a10,a11]
abbrev lwB:Fs:=evS (ay gc t86) (foN 0 d86.b)
variable{a9:ζ CV}
section
variable{cs ss:η Hd}{R:η Rw}{bg:η Str}{ks:η Kp'}{inc:η Dt}{ns:η Str}{h p:Nat}{s0 s1 s4 s5 s6:ζ CV}
structure Go(cs ss:List Hd)(R:List Rw)(ks:List Kp')(inc:List Dt)(h p N:Nat)(S:HS)(l:LS)(g:Vf)(P:PN)(a:AM)(b:CH):Prop where
 hs:Hs (fx cs ss R ks inc) (shC cs++shS ss) N a S l g
 pa:PA (fx cs ss R ks inc) (cs.map (·.1)) (N+200) P a
 rs:P.res=.non
 pl:a.pl<R.length
 w:Pair (shC cs++shS ss) (shS ss) h p S l g P a.f b
structure En(cs ss:List Hd)(R:List Rw)(ks:List Kp')(inc:List Dt)(h p N:Nat)(S:HS)(l:LS)(g:Vf)(P:PN)(a:AM)(v:Int)(b:CH):Prop where
 sd:Sd (fx cs ss R ks inc) (shC cs++shS ss) N S l g a
 pa:PA (fx cs ss R ks inc) (cs.map (·.1)) (N+200) P a
 w:Pair (shC cs++shS ss) (shS ss) h p {S with res:=.int v} {l with dn:=l.dn+1} g {P with dn:=P.dn+1,res:=.int v} a.f b
theorem yD (T:Pr cs ss R bg ks inc) {N:Nat} {S:HS} {l:LS} {g:Vf} {P:PN} {a:AM} {b:CH} {a10 a11:ζ CV} (G:Go cs ss R ks inc h p N S l g P a b) (hN:N<700) :
  (∃S' l' g' P' a' b' a9' O,lwB (lwE s0 s1 s4 s5 s6 (.e (ns.map .str)) (pgm cs ss R) h p a9 a10 a11) b=ς (.nx (lwE s0 s1 s4 s5 s6 (.e (ns.map .str)) (pgm cs ss R) h p a9' a10 O) b')/\Go cs ss R ks inc h p (N+1) S' l' g' P' a' b')\/
  (∃S' l' g' P' a' b' v O,lwB (lwE s0 s1 s4 s5 s6 (.e (ns.map .str)) (pgm cs ss R) h p a9 a10 a11) b=ς (.bk (lwE s0 s1 s4 s5 s6 (.e (ns.map .str)) (pgm cs ss R) h p (ς (.g (.e (twD cs ss g')))) a10 O) b')/\En cs ss R ks inc h p N S' l' g' P' a' v b'):=by
 have X:=T.xr;have hl:∀q∈ss,q.2.1.toNat<=1000:=λq hq=>by have:=T.sv q hq;lia
 have hlen:=T.len;have⟨hf,h1⟩:=G.w.h1;rcases G.hs with ⟨o,hr⟩|⟨W,hW,o⟩
 . -- it stands
   have st:=G.w.hp (ds:=[]) (ai _) (dm o hr);have⟨ρ,σ,A1,A2,d,e1,e2⟩:=id G.w;have⟨M,ak⟩:=vL (rw:=.t (R.map Rw.d)) (ns:=ns) (pQ T) hl o hr G.pa A1 A2 (by have:=G.pa.on;lia);rw[e1,e2]at ak;have w1:=G.w.ext M;have⟨ρ1,σ1,B1,B2,d1,f1,f2⟩:=id w1;have tw:=mD (rw:=.t (R.map Rw.d)) (pQ T) Θ Θ B1;rw[f1]at tw;have⟨hf1,h11⟩:=w1.h1;obtain⟨r,hR⟩:∃r,R[a.pl]?=ς r:=⟨_,gQ G.pl⟩;have⟨k1,k2⟩:=CK X Θ o hr hR;have⟨m1,m2⟩:=EN (ET T) G.pa Θ G.rs hR;by_cases Z:∃q,r=.fin q
   .right;have⟨q,rfl⟩:=Z;have⟨S',l',g',b2,⟨rfl,rfl,rfl⟩,c2,Y⟩:=w1.house (ds:=[]) (ai _) (.here (Q:=λS' l' g'=>S'={S with res:=.int (wv a.b q)}/\l'={l with dn:=l.dn+1}/\g=g') (k1 q rfl) ⟨rfl,rfl,rfl⟩);have⟨b3,c3,w3⟩:=Y.plain (ai _) (m1 q rfl);have⟨pf2,U⟩:=Y.h2;have⟨pf3,h23⟩:=w3.h2;have en:=w3.pp (ds:=[]) (ai _) (mz (i:=wv a.b q) rfl);exact⟨S,l,g,P,a,b3,wv a.b q,ς (.g (.bl θ)),xRs (.h 0 h1 (.v 0 st (.v 0 ak (.v 0 tw (.h 0 h11 (.v 0 c2 (.h 0 U (.v 0 c3 (.h 0 h23 (.v 0 en .nil)))))))))),o,G.pa,w3⟩
   .left;have hf':∀q,r≠.fin q:=λq e=>Z ⟨q,e⟩
    have⟨⟨j,hj,hjR⟩,t⟩:=k2 hf';have⟨S',l',g',b2,hs',c2,Y⟩:=w1.house (ds:=[]) (ai _) t;have⟨P',c3',pa',rs'⟩:=m2 hf' j hj;have⟨b3,c3,w3⟩:=Y.plain (ai _) c3';have⟨pf2,U⟩:=Y.h2;have⟨pf3,h23⟩:=w3.h2;have en:=w3.pp (ds:=[]) (ai _) (fg rs');refine⟨S',l',g',P',stA (fx cs ss R ks inc) a r,b3,ς (.g (.e (twD cs ss g))),ς (.g (.bl θ)),xRs (.h 0 h1 (.v 0 st (.v 0 ak (.v 0 tw (.h 0 h11 (.v 0 c2 (.h 0 U (.v 0 c3 (.h 0 h23 (.v 0 en .nil)))))))))),hs',?_,rs',?_,w3⟩
    .rw[show N+1+200=N+200+1 by lia];exact pa'
    .show(goA a r).toNat<_;rw[hj];exact hjR
 . -- it writes
   left;have st:=G.w.hp (ds:=[]) (ai _) (vE o hW);have⟨S',l',g',b2,hs',c2,Y⟩:=G.w.house (ds:=[]) (ai _) (CJ X.X.nd Θ o hW);have⟨pf2,U⟩:=Y.h2;have en:=Y.pp (ds:=[]) (ai _) (fg G.rs);refine⟨S',l',g',P,a,b2,a9,ς (.g (.bl ξ)),xRs (.h 0 h1 (.v 0 st (.h 0 h1 (.v 0 c2 (.h 0 U (.v 0 en .nil)))))),hs',?_,G.rs,G.pl,Y⟩;rw[show N+1+200=N+200+1 by lia];exact G.pa.up
theorem pR (T:Pr cs ss R bg ks inc):∀ {ds:η Dt} {N:Nat} {S:HS} {l:LS} {g:Vf} {P:PN} {a:AM} {b:CH} {a9 a10 a11:ζ CV},Go cs ss R ks inc h p N S l g P a b->N+ds.length<700→
  (∃N' S' l' g' P' a' b' W U O,cZ (bnd (.one 10)) lwB ds (lwE s0 s1 s4 s5 s6 (.e (ns.map .str)) (pgm cs ss R) h p a9 a10 a11) b=ς (.nx (lwE s0 s1 s4 s5 s6 (.e (ns.map .str)) (pgm cs ss R) h p W U O) b')/\Go cs ss R ks inc h p N' S' l' g' P' a' b')\/
  (∃N' S' l' g' P' a' b' v U O,cZ (bnd (.one 10)) lwB ds (lwE s0 s1 s4 s5 s6 (.e (ns.map .str)) (pgm cs ss R) h p a9 a10 a11) b=ς (.nx (lwE s0 s1 s4 s5 s6 (.e (ns.map .str)) (pgm cs ss R) h p (ς (.g (.e (twD cs ss g')))) U O) b')/\N'<700/\En cs ss R ks inc h p N' S' l' g' P' a' v b')
 |[],N,S,l,g,P,a,b,a9,a10,a11,G,_=>.inl ⟨N,S,l,g,P,a,b,a9,a10,a11,rfl,G⟩
 |d::ds,N,S,l,g,P,a,b,a9,a10,a11,G,Y=>by
  rwa[qc2]at Y;rcases yD (s0:=s0) (s1:=s1) (s4:=s4) (s5:=s5) (s6:=s6) (ns:=ns) (a9:=a9) (a10:=ς (.g d)) (a11:=a11) T G Θ with ⟨S',l',g',P',a',b',W,O,e,Z⟩|⟨S',l',g',P',a',b',v,O,e,E⟩
  .rw[dY (δ':=lwE s0 s1 s4 s5 s6 (.e (ns.map .str)) (pgm cs ss R) h p a9 (ς (.g d)) a11) rfl e];exact pR T Z Θ
  .exact .inr ⟨N,S',l',g',P',a',b',v,_,O,CW (δ':=lwE s0 s1 s4 s5 s6 (.e (ns.map .str)) (pgm cs ss R) h p a9 (ς (.g d)) a11) rfl e,Θ,E⟩
end
variable{xs:η Str}
section
variable{ch:CH}
theorem rF{n:Nat}:(aG 0 n).length=n:=by simp[aG]
theorem aK{n:Nat}(h:n<1100):eO (n:Int)=θ:=by unfold eO;simp;lia
theorem fm{α:Type}{f:α->Dt}{l:η α}{k:Nat}(h:k<l.length):ixD (.e (l.map f)) (.int k)=ς (f l[k]):=(gM (by rw[qa9,gQ h];rfl)).1
theorem cJ(ns:η Int)(k:Nat):∃v:Int,F1 [.g (.e (ns.map .int)),I k] ch=ς (I v,ch):=by
 have hl:bLen.g [.e (ns.map .int)]=ς (.f (.int ns.length)):=by simp[bLen,fL]
 by_cases h:k<ns.length
 .have O:ixV ch (.g (.e (ns.map .int))) (.int k)=ς (I ns[k]):=by show(ixD _ _).map CV.g=_;rw[fm (f:=Dt.int) h];rfl
  exact⟨ns[k],xR (.t 0 hl (.t 0 (ltI (decide_eq_true (show(k:Int)<(ns.length:Int)by lia))) (.c 0 O .nil)))⟩
 .exact⟨0,xR (.t 0 hl (.t 0 (ltI (decide_eq_false (show ¬ (k:Int)<(ns.length:Int)by lia))) .nil))⟩
def Sm'(v:Int):Prop:=0<=v/\v<2147483629
theorem jW{c m:CV}:∀{ds l:η Int}{n:Int}{a4:ζ CV},(∀d∈ds,0<=d)->0<=n->n<2147553251->(∀v∈l,Sm' v)->l.length+ds.length<=1000->∃(l':η Int)(n':Int)(U:ζ CV),cZ (bnd (.one 4)) (aL (i7 3 (e2 .v oMod.g (e2 .v oAdd.g (e2 .v oAdd.g (e2 .v oMul.g (eV 3) (eV 3)) (e2 .v oMul.g (eK (.int 16807)) (eV 3))) (eV 4)) (eK (.int 2147483629)))) (aL (sAs 2 (eV 3)) dQ)) (ds.map .int) [ς c,ς m,ς (.own θ (.e (l.map .int))),ς (I n),a4] ch=ς (.nx [ς c,ς m,ς (.own θ (.e (l'.map .int))),ς (I n'),U] ch)/\l'.length=l.length+ds.length/\∀v∈l',Sm' v
 |[],l,n,a4,_,_,_,hl,_=>⟨l,n,a4,rfl,rfl,hl⟩
 |d::ds,l,n,a4,hd,h0,h1,hl,hz=>by
  rwa[qc2]at hz;have m1:cK n n=θ:=eJ Θ Θ;have m2:cK 16807 n=θ:=eJ Θ Θ;have W:=qg1 (n*n+16807*n+d) (show(2147483629:Int)≠0 by decide);have b1:=qg7 (n*n+16807*n+d) (show(0:Int)<2147483629 by decide);obtain⟨v,hv⟩:∃v,v=(n*n+16807*n+d)%2147483629:=⟨_,rfl⟩;rw[<- hv]at W b1;have⟨l',n',U,e1,Z,e3⟩:=jW (c:=c) (m:=m) (ds:=ds) (l:=l++[v]) (n:=v) (a4:=ς (I d)) (λx O=>hd x (.tail _ O)) W Θ (λx O=>by rcases qg9.mp O with O|O;exact hl x O;simp at O;subst O;exact⟨W,b1⟩) (by simp;lia);refine⟨l',n',U,?_,by rw[Z];simp;lia,e3⟩;have Y:l.length<16777216:=by lia
  refine ze6 (dY (δ':=[ς c,ς m,ς (.own θ (.e (l.map .int))),ς (I n),ς (I d)]) (δ2:=[ς c,ς m,ς (.own θ (.e ((l++[v]).map .int))),ς (I v),ς (I d)]) (ch1:=ch) rfl ?_) e1;simp! only[sAs];simp! [oMul,iY,m1,m2,oMod,eN,<- hv,dF,ownA,Y]
theorem EW{l:η Int}:gSl (.e (l.map .int)) (ς 1) ψ=ς (.e ((l.drop 1).map .int)):=by
 show ς (T.e (ic (l.map .int) (ς 1) ψ))=_;unfold ic;cases l with
 |nil=>rfl
 |cons a l=>
  have h1:HT.sIx ((a::l).map Dt.int).length 0 (ς 1)=1:=by simp[HT.sIx]
  have h2:HT.sIx ((a::l).map Dt.int).length ((a::l).map Dt.int).length ψ=(a::l).length:=by simp[HT.sIx]
  rw[h1,h2];simp;rw[List.take_of_length_le Ξ]
theorem dC(c:Int)(m:Nat)(hm:m<=100):∃vs:η Int,F2 [I c,I m] ch=ς (.g (.e (vs.map .int)),ch)/\vs.length=m/\∀v∈vs,Sm' v:=by
 have b0:=qg1 c (show(2147483629:Int)≠0 by decide);have b1:=qg7 c (show(0:Int)<2147483629 by decide);have Z:aG 0 (m+1)=((qd9 (m+1)).map λi:Nat=>(i:Int)).map .int:=by unfold aG;rw[qd2];apply qe8;intro i _;simp
 have⟨l,n,a4,U,O,W⟩:=jW (ch:=ch) (c:=I c) (m:=I m) (ds:=(qd9 (m+1)).map λi:Nat=>(i:Int)) (l:=[]) (n:=c%2147483629+69621) (a4:=ψ) Ξ Θ Θ Ξ (by simp;lia);rw[<- Z]at U;refine⟨l.drop 1,?_,by rw[qt9,O];simp,λv Y=>W v (List.mem_of_mem_drop Y)⟩;rw[q2];refine fX (av (δ':=[ς (I c),ς (I m),ς (.own θ (.e [])),ψ,ψ]) (ch1:=ch) rfl (av (δ':=[ς (I c),ς (I m),ς (.own θ (.e [])),ς (I (c%2147483629+69621)),ψ]) (ch1:=ch) ?_ (av (cF (ds:=aG 0 (m+1)) (dH (j:=m+1) ?_ (aK Θ)) U) (jO (jN (c:=.g (.e ((l.drop 1).map .int))) (ch1:=ch) ?_ rfl)))))
 .simp! only[];simp! [oMod,eN]
 .simp! only[];simp! []
 .have:=EW (l:=l);rwa[eSl,fOp,eV,eK,lent,qa0,qd1,qg3,cu,qb2,vw,T.d,this,fin]
theorem iQ(n:Int):∃v,Vi (.int v)/\F3 [I n] ch=ς (I v,ch):=by
 have O:oPow.g (.int 2) (.int 40)=ς (.f (.int 1099511627776)):=by simp[oPow,tp,lG]
 have Y:oMul.g (.int (n/3)) (.int 1664525)=ς (.f (.int (n/3*1664525))):=by simp[oMul,orO,iY,oF (i:=n/3) (j:=1664525) Θ Θ]
 by_cases U:n%3=0
 .exact⟨n/3%4,⟨_,rfl,Θ,Θ⟩,xR (.t 1 (eqI (decide_eq_true U)) .nil)⟩
 .have W:=eqI (decide_eq_false U);by_cases h1:n%3=1
  .exact⟨1099511627776-1-n/3%4,⟨_,rfl,Θ,Θ⟩,xR (.t 1 W (.t 1 (eqI (decide_eq_true h1)) (.t 0 O .nil)))⟩
  .exact⟨n/3*1664525%1099511627776,⟨_,rfl,Θ,Θ⟩,xR (.t 1 W (.t 1 (eqI (decide_eq_false h1)) (.t 1 Y (.t 0 O .nil))))⟩
theorem ll(n:Int)(hx:xs≠[]):∃a,bE a/\F5 [I n,.g (.e (xs.map .str))] ch=ς (.g (aB a),ch):=by
 by_cases W:n%3=0
 .have⟨v,Z,h1⟩:=iQ (ch:=ch) (n/3);exact⟨.inl v,.inl Z,xR (.t 1 (eqI (decide_eq_true W)) (.v 0 h1 .nil))⟩
 .have hp:(0:Int)<xs.length:=by have:=List.length_pos_iff.mpr hx;lia
  have Y:=qg1 (n/3) (show(xs.length:Int)≠0 by lia);have b1:=qg7 (n/3) hp;have⟨k,hk⟩:=qh9 Y;have U:k<xs.length:=by lia
  have hl:bLen.g [.e (xs.map .str)]=ς (.f (.int xs.length)):=by simp[bLen,fL]
  have O:ixV ch (.g (.e (xs.map .str))) (.int (n/3%(xs.length:Int)))=ς (.g (.str xs[k])):=by show(ixD _ _).map CV.g=_;rw[hk,fm (f:=Dt.str) U];rfl
  exact⟨.inr xs[k],.inr ⟨_,rfl⟩,xR (.t 1 (eqI (decide_eq_false W)) (.t 1 hl (.t 0 (mdI (v:=n/3) rfl hp) (.c 0 O .nil))))⟩
end
noncomputable def ltt:Str:="abcdefghijklmnopqrstuvwxyz"
theorem yE:ltt.length=26:=χ
noncomputable def sgn(i:Int):Nat:=ltt.cps.toList.getD i.toNat 0
theorem yF:∀i<26,∀j<26,ltt.cps.toList.getD i 0=ltt.cps.toList.getD j 0->i=j:=χ
theorem v0{i:Int}(W:0<=i)(h1:i<26):ixD (.str ltt) (.int i)=ς (.str ⟨#[sgn i]⟩):=by
 have hl:ltt.cps.toList.length=26:=by decide +kernel
 have:gIx (.str ltt) (.int i)=ς (.f (.str ⟨#[sgn i]⟩)):=by
  have e:gIx (.str ltt) (.int i)=(atI ltt.cps.toList i).map λc=>.f (.str ⟨#[c]⟩):=by have U:ltt.length<=qa5:=pd (by rw[yE];decide);rwa[gIx,U,if_true]
  have O:atI ltt.cps.toList i=ς (sgn i):=by unfold atI ixN;rw[if_pos W,hl,if_pos Θ];rwa[qa0];unfold sgn;rw[qc6,gQ Θ];rfl
  rw[e,O];rfl
 show(match (ψ:ζ (ζ Dt))with|some r=>r|none=>match gIx (.str ltt) (.int i)with|some (.f y)=>ς y|_=>ψ)=_;rw[this]
theorem yG(x y:Str):(x++y).length=x.length+y.length:=by show(x.cps++y.cps).size=_;rw[Array.size_append];rfl
theorem yH(x y:Str):(x++y).cps.toList=x.cps.toList++y.cps.toList:=by show(x.cps++y.cps).toList=_;simp
theorem addS{x:Str}(h:x.length+y.length<=1000000):oAdd.g (.str x) (.str y)=ς (.f (.str (x++y))):=by show orO eM iA _ _=_;unfold orO;rw[Cw (pd h)]
theorem mH{x:Str}{lo hi:ζ Int}(h:x.length<=1000):∃y,gSl (.str x) lo hi=ς (.f (.str y))/\y.length<=x.length:=⟨_,if_pos (pd Θ),Txt.slice_le x lo hi⟩
section
variable{ch:CH}
theorem nm_0(c x:Int)(W:0<=x)(h1:x<10):∃g:Nat,eIx (eV 2) (e2 .v oMod.g (e2 .v oAdd.g (e2 .v oDiv.g (eV 1) (eK (.int 37))) (e2 .v oMul.g (e2 .v oMul.g (eK (.int 11)) (eV 0)) (e2 .v oMod.g (eV 1) (eK (.int 2))))) (eK (.int 26))) [ς (I x),ς (I c),ς (.g (.str ltt))] ch=ς (.g (.str ⟨#[g]⟩),ch):=by have O:cK 11 x=θ:=eJ Θ Θ;have U:cK (11*x) (c%2)=θ:=eJ Θ Θ;have hs:=v0 (i:=(c/37+11*x*(c%2))%26) (qg1 _ Ω) (qg7 _ Ω);refine⟨sgn ((c/37+11*x*(c%2))%26),?_⟩;simp! only[];dsimp! [oMod,eN,oDiv,gi,oMul,iY,O,U,hs]
abbrev nE0:Fg:=eIx (eV 2) (e2 .v oMod.g (e2 .v oAdd.g (e2 .v oDiv.g (eV 1) (eK (.int 37))) (e2 .v oMul.g (e2 .v oMul.g (eK (.int 11)) (eV 0)) (e2 .v oMod.g (eV 1) (eK (.int 2))))) (eK (.int 26)))
abbrev nE1:Fg:=e2 .v oAdd.g (e2 .v oAdd.g (eSl .v (eV 3) ψ (ς (eV 1))) (eIx (eV 4) (e2 .v oMod.g (e2 .v oAdd.g (e2 .v oDiv.g (eV 2) (eK (.int 42))) (e2 .v oMul.g (eK (.int 5)) (eV 0))) (eK (.int 26))))) (eSl .v (eV 3) (ς (eV 1)) ψ)
theorem nm_c(c:Int)(n:Nat)(hn6:n<6):∃gs:η Nat,gs.length=n/\aF (bnd (.one 0)) tYs nE0 [ψ,ς (I c),ς (.g (.str ltt))] (aG 0 n) ch=ς ((sgD gs).map .g,ch):=by
 have⟨ds,W,O,Y⟩:=o7 (pt:=.one 0) (ft:=tYs) (fe:=nE0) (δ:=[ψ,ς (I c),ς (.g (.str ltt))]) (ch:=ch) (f:=λi:Nat=>.int (0+(i:Int))) (P:=λd=>∃g:Nat,d=.str ⟨#[g]⟩) (l:=qd9 n) λi hi=>by have⟨g,hg⟩:=nm_0 (ch:=ch) c (0+(i:Int)) Θ (by have:=qf2.mp hi;lia);exact⟨_,_,rfl,rfl,hg,g,rfl⟩
 obtain⟨gs,rfl,U⟩:∃gs:η Nat,ds=sgD gs/\gs.length=ds.length:=by
  clear W Y;induction ds with
  |nil=>exact⟨[],rfl,rfl⟩
  |cons d ds ih=>
   have⟨g,rfl⟩:=O d (.head _);have⟨gs,rfl,h⟩:=ih λd Z=>O d (.tail _ Z)
   exact⟨g::gs,rfl,by simp[h]⟩
 exact⟨gs,by rw[U,Y];simp,W⟩
theorem nm_1(c p:Int){m y z:Str}(hy:y.length<=6)(hz:z.length<=6)(ey:gSl (.str m) ψ (ς p)=ς (.f (.str y)))(U:gSl (.str m) (ς p) ψ=ς (.f (.str z)))(x:Int)(h0:0<=x)(h1:x<12):nE1 [ς (I x),ς (I p),ς (I c),ς (.g (.str m)),ς (.g (.str ltt))] ch=ς (.g (.str (y++⟨#[sgn ((c/42+5*x)%26)]⟩++z)),ch):=by
 have Z:cK 5 x=θ:=eJ Θ Θ;have hs:=v0 (i:=(c/42+5*x)%26) Θ Θ;obtain⟨g,O⟩:∃g:Str,g=⟨#[sgn ((c/42+5*x)%26)]⟩:=⟨_,rfl⟩;have hgl:g.length=1:=by rw[O];rfl
 rw[<- O]at hs ⊢;have W:=addS (x:=y) (y:=g) Θ;have Y:=addS (x:=y++g) (y:=z) (by rw[yG];lia);have x1:eSl .v (eV 3) ψ (ς (eV 1)) [ς (I x),ς (I p),ς (I c),ς (.g (.str m)),ς (.g (.str ltt))] ch=ς (.g (.str y),ch):=by simp[eSl,fOp,eV,lent,cu,vw,ey,fin,T.d]
 have x3:eSl .v (eV 3) (ς (eV 1)) ψ [ς (I x),ς (I p),ς (I c),ς (.g (.str m)),ς (.g (.str ltt))] ch=ς (.g (.str z),ch):=by simp[eSl,fOp,eV,lent,cu,vw,U,fin,T.d]
 have x2:eIx (eV 4) (e2 .v oMod.g (e2 .v oAdd.g (e2 .v oDiv.g (eV 2) (eK (.int 42))) (e2 .v oMul.g (eK (.int 5)) (eV 0))) (eK (.int 26))) [ς (I x),ς (I p),ς (I c),ς (.g (.str m)),ς (.g (.str ltt))] ch=ς (.g (.str g),ch):=by simp! only[];dsimp! [oMod,eN,oDiv,gi,oMul,iY,Z,hs]
 exact o8 (o8 x1 x2 rfl rfl W) x3 rfl rfl Y
theorem EX{c:Int}{z:Str}:((qd9 12).map λi:Nat=>y++⟨#[sgn ((c/42+5*(i:Int))%26)]⟩++z).Nodup:=by
 rw[List.nodup_iff_pairwise_ne,List.pairwise_map];refine List.Pairwise.imp_of_mem ?_ qq0;intro i j hi O U h;have hi:=qf2.mp hi;have O:=qf2.mp O;have e:=congrArg (λs:Str=>s.cps.toList) h;rwa[yH]at e;have e:=List.append_cancel_left (List.append_cancel_right e);have e:sgn ((c/42+5*(i:Int))%26)=sgn ((c/42+5*(j:Int))%26):=‹e›
 have:=yF _ Θ _ Θ e;omega
theorem nm_l{n:Nat}{g:Nat->Dt}(hi:fi δ ch=ς (aG 0 n,ch))(O:gC src δ=δ0)(U:n<=1000)(h:aF (bnd (.one 0)) tYs fe δ0 (aG 0 n) ch=ς ((qd9 n).map λi=>.g (g i),ch)):eCo .v src fi (bnd (.one 0)) tYs fe δ ch=ς (.g (.e ((qd9 n).map g)),ch):=by unfold eCo;rw[hi,qa0,O];dsimp only;rw[h,qa0];dsimp only;rw[if_pos (by rw[qa2,qy0,qb7];lia),bO];rfl
theorem EY{c N:Int}(O:c%6=N):i7 3 (e2 .v oMod.g (eV 0) (eK (.int 6))) [ς (I c),ς (I 12),ς (.g (.str ltt)),ψ,ψ,ψ] ch=ς (.nx [ς (I c),ς (I 12),ς (.g (.str ltt)),ς (I N),ψ,ψ] ch):=by simp! only[];simp! [oMod,eN,O]
theorem EZ{c N p:Int}(O:0<=N)(hp:p=c/6%(N+1)):i7 4 (e2 .v oMod.g (e2 .v oDiv.g (eV 0) (eK (.int 6))) (e2 .v oAdd.g (eV 3) (eK (.int 1)))) [ς (I c),ς (I 12),ς (.g (.str ltt)),ς (I N),ψ,ψ] ch=ς (.nx [ς (I c),ς (I 12),ς (.g (.str ltt)),ς (I N),ς (I p),ψ] ch):=by simp! only[];simp! [oMod,eN,oDiv,gi,hp,show 0<N+1 by lia]
theorem E4{c p:Int}{n:Nat}{gs:η Nat}{m:Str}(Y:n<6)(Z:gs.length=n)(U:m=⟨gs.toArray⟩)(O:aF (bnd (.one 0)) tYs nE0 [ψ,ς (I c),ς (.g (.str ltt))] (aG 0 n) ch=ς ((sgD gs).map .g,ch)):eMt .v mJoin.g (eK (.str "")) (aCn (eCo .v [ψ,ς 0,ς 2] (iR 1 (aCn (eV 3) aNl)) (bnd (.one 0)) tYs nE0) aNl) [ς (I c),ς (I 12),ς (.g (.str ltt)),ς (I n),ς (I p),ψ] ch=ς (.g (.str m),ch):=by
 have W:mJoin.g (.str "") [.e (sgD gs)]=ς (.f (.str m)):=by rw[U];exact uZ (cs:=gs) Θ
 exact Cg rfl (dg (dh (dH rfl (aK Θ)) rfl O (by rw[sgD,qa2,qb7];lia))) W
theorem mI(c:Int):∃xs:η Str,F0 [I c,I 12] ch=ς (.g (.e (xs.map .str)),ch)/\xs.length=12/\xs.Nodup:=by
 have b0:=qg1 c (show(6:Int)≠0 by decide);have b1:=qg7 c (show(0:Int)<6 by decide);have⟨n,hn⟩:=qh9 b0;have O:n<6:=by lia
 obtain⟨p,hp⟩:∃p,p=c/6%((n:Int)+1):=⟨_,rfl⟩;have⟨gs,U,Y⟩:=nm_c (ch:=ch) c n O;obtain⟨m,W⟩:∃m:Str,m=⟨gs.toArray⟩:=⟨_,rfl⟩;have hml:m.length<=6:=by rw[W];show gs.toArray.size<=6;simp;lia
 have⟨y,ey,hy⟩:=mH (x:=m) (lo:=ψ) (hi:=ς p) Θ;have⟨z,Z,hz⟩:=mH (x:=m) (lo:=ς p) (hi:=ψ) Θ;have e4:=bz (pt:=.one 0) (ft:=tYs) (fe:=nE1) (δ:=[ψ,ς (I p),ς (I c),ς (.g (.str m)),ς (.g (.str ltt))]) (ch:=ch) (f:=λi:Nat=>.int (0+(i:Int))) (g:=λi:Nat=>.str (y++⟨#[sgn ((c/42+5*(i:Int))%26)]⟩++z)) (l:=qd9 12) λi hi=>⟨[ς (I (0+(i:Int))),ς (I p),ς (I c),ς (.g (.str m)),ς (.g (.str ltt))],rfl,rfl,by have h:=nm_1 (ch:=ch) c p Θ Θ ey Z (0+(i:Int)) Θ (by have:=qf2.mp hi;lia);rw[qr4]at h ⊢;exact h⟩
 have s1:=EY (ch:=ch) hn;have s2:=EZ (ch:=ch) (c:=c) (N:=n) Θ hp;have s3:=E4 (p:=p) O U W Y;have s4:eCo .v [ψ,ς 4,ς 0,ς 5,ς 2] (iR 1 (aCn (eV 1) aNl)) (bnd (.one 0)) tYs nE1 [ς (I c),ς (I 12),ς (.g (.str ltt)),ς (I n),ς (I p),ς (.g (.str m))] ch=ς (.g (.e ((qd9 12).map λi:Nat=>.str (y++⟨#[sgn ((c/42+5*(i:Int))%26)]⟩++z))),ch):=nm_l (dH (j:=12) rfl (aK Θ)) rfl Θ e4;refine⟨(qd9 12).map λi:Nat=>y++⟨#[sgn ((c/42+5*(i:Int))%26)]⟩++z,?_,Ξ,EX⟩;rw[qd2,q0];exact fX (av (δ':=[ς (I c),ς (I 12),ς (.g (.str ltt)),ψ,ψ,ψ]) (ch1:=ch) rfl (av s1 (av s2 (av (dX s3 rfl) (jO (jN s4 rfl))))))
end
theorem n6(W:xs.Nodup):∀{is:η Nat},is.Nodup->(∀i∈is,i<xs.length)->(is.map λi=>xs.getD i qz3).Nodup
 |[],_,_=>by simp
 |i::is,h,hl=>by
  have h':=qc8.mp h;rw[qa3,qc8];refine⟨λY=>?_,n6 W h'.2 λj U=>hl j (.tail _ U)⟩;have⟨j,U,e⟩:=qb8.mp Y;have hi:=hl i (.head _);have O:=hl j (.tail _ U);rwa[qc6,qq6 hi,qq6 O,qz7]at e;have hp:=List.pairwise_iff_getElem.mp W;rcases qy3 i j with q|q|q
  .exact hp i j hi O q e.symm
  .exact h'.1 (by rw[q];exact U)
  .exact hp j i O hi q e
section
variable{ch:CH}
theorem ixS{k:Nat}(h:k<xs.length):ixD (.e (xs.map .str)) (.int k)=ς (.str (xs.getD k qz3)):=by rw[fm h,qc6,gQ h];rfl
theorem ixI{xs:η Int}{k:Nat}(h:k<xs.length):ixD (.e (xs.map .int)) (.int k)=ς (.int (xs.getD k 0)):=by rw[fm h,qc6,gQ h];rfl
theorem zK{xs:η Int}(O:∀v∈xs,Sm' v){k:Nat}(h:k<xs.length):Sm' (xs.getD k 0):=by rw[qc6,gQ h];exact O _ (qp9 h)
structure Wd(bx:List Str)(cs ss:List Hd)(inc:List Int):Prop where
 b4:bx.length=4
 c0:0<cs.length/\cs.length<=3
 s0:0<ss.length/\ss.length<=2
 nd:((cs++ss).map (·.1)).Nodup
 cv:∀h∈cs,Vi (.int h.2.1)
 sv:∀h∈ss,0<h.2.1/\h.2.1<=8
 inc:∀i∈inc,Vi (.int i)
abbrev wdD(bx:η Str)(cs ss:η Hd)(inc:η Int):Dt:=.t [.e (bx.map .str),.e (cs.map Hd.d),.e (ss.map Hd.d),.e (inc.map .int)]
abbrev cE:Fg:=eTu (aCn (eIx (eV 1) (eV 0)) (aCn (eCa 1 F3 (aCn (eIx (eV 2) (eV 0)) aNl)) (aCn (e2 .v oEq.g (e2 .v oMod.g (e2 .v oDiv.g (eIx (eV 2) (eV 0)) (eK (.int 5))) (eK (.int 2))) (eK (.int 0))) aNl)))
abbrev sE:Fg:=eTu (aCn (eIx (eV 1) (e2 .v oAdd.g (eK (.int 4)) (eV 0))) (aCn (e2 .v oAdd.g (eK (.int 1)) (e2 .v oMod.g (eIx (eV 2) (e2 .v oAdd.g (eK (.int 4)) (eV 0))) (eK (.int 8)))) (aCn (e2 .v oEq.g (e2 .v oMod.g (e2 .v oDiv.g (eIx (eV 2) (e2 .v oAdd.g (eK (.int 4)) (eV 0))) (eK (.int 8))) (eK (.int 2))) (eK (.int 0))) aNl)))
theorem E5{xs vs:Dt}{x v:Int}{s:Str}(h1:ixD xs (.int x)=ς (.str s))(h2:ixD vs (.int x)=ς (.int v))(t1:∃l,xs=.e l)(t2:∃l,vs=.e l):∃h:Hd,cE [ς (I x),ς (.g xs),ς (.g vs)] ch=ς (.g h.d,ch)/\Vi (.int h.2.1)/\h.1=s:=by have⟨a,rfl⟩:=t1;have⟨b,rfl⟩:=t2;have⟨w,U,O⟩:=iQ (ch:=ch) v;refine⟨(s,w,decide (v/5%2=0)),?_,U,rfl⟩;simp! only[];dsimp! [h1,h2,O,oMod,eN,oDiv,gi,Hd.d]
theorem E6{xs vs:Dt}{x v:Int}{s:Str}(h1:ixD xs (.int (4+x))=ς (.str s))(h2:ixD vs (.int (4+x))=ς (.int v))(t1:∃l,xs=.e l)(t2:∃l,vs=.e l):∃h:Hd,sE [ς (I x),ς (.g xs),ς (.g vs)] ch=ς (.g h.d,ch)/\(0<h.2.1/\h.2.1<=8)/\h.1=s:=by have⟨a,rfl⟩:=t1;have⟨b,rfl⟩:=t2;refine⟨(s,1+v%8,decide (v/8%2=0)),?_,by show 0<1+v%8/\1+v%8<=8;lia,rfl⟩;simp! only[];dsimp! [h1,h2,oMod,eN,oDiv,gi,Hd.d]
theorem pS{α:Type}(f:α->Dt)(l:η α)(a b:Nat)(hb:b<=l.length)(O:a<=b):gSl (.e (l.map f)) (ς (a:Int)) (ς (b:Int))=ς (.e (((l.drop a).take (b-a)).map f)):=by show ς (T.e (ic (l.map f) (ς (a:Int)) (ς (b:Int))))=_;unfold ic;rw[HT.Ff,HT.Ff,qa2,Nat.min_eq_left hb,Nat.min_eq_left (show a<=l.length by lia),List.map_take,List.map_drop]
theorem iS{n:Nat}{F:Fd}{fs:FM (η CV)}{c:CV}{ch2:CH}(hs:fs δ ch=ς (cs,ch))(U:cs.length=n/\cs.all CV.old=θ)(O:F cs ch=ς (c,ch2)):eCa n F fs δ ch=ς (c,ch2):=by unfold eCa kCa;rw[hs,qa0];dsimp only;rw[if_pos U];exact O
theorem dq{f:Fg}{fs:FM (η CV)}{c:CV}(h:f δ ch=ς (c,ch))(hs:fs δ ch=ς (cs,ch)):aCn f fs δ ch=ς (c::cs,ch):=by unfold aCn;rw[h,qa0];dsimp only;rw[hs];rfl
theorem E7{f:Fg}{d:Dt}(h:f δ ch=ς (.g d,ch))(O:itD d=ς l):iE f δ ch=ς (l,ch):=by unfold iE;rw[h,qa0];dsimp only;rw[O];rfl
theorem v3(ns:η Int):∃bx cs ss inc,Wd bx cs ss inc/\F4 [.g (.e (ns.map .int))] ch=ς (.g (wdD bx cs ss inc),ch):=by
 have⟨c0,g0⟩:=cJ (ch:=ch) ns 0;have⟨c1,g1⟩:=cJ (ch:=ch) ns 1;have⟨c2,g2⟩:=cJ (ch:=ch) ns 2;have⟨xs,hx1,hx2,hx3⟩:=mI (ch:=ch) c0;have⟨vs,W,hv2,hv3⟩:=dC (ch:=ch) c1 12 Θ;have sm:=λk (h:k<12)=>zK hv3 (k:=k) Θ
 obtain⟨a,ha⟩:∃a:Nat,(a:Int)=1+vs.getD 6 0%3:=⟨(1+vs.getD 6 0%3).toNat,Θ⟩;obtain⟨b,hb⟩:∃b:Nat,(b:Int)=1+vs.getD 7 0%2:=⟨(1+vs.getD 7 0%2).toNat,Θ⟩;obtain⟨d,hd⟩:∃d:Nat,(d:Int)=vs.getD 8 0%7:=⟨(vs.getD 8 0%7).toNat,Θ⟩;have⟨ls,hl1,hl2,hl3⟩:=dC (ch:=ch) c2 d Θ
 have⟨cs,e1,e2',e3⟩:=de (pt:=.one 0) (ft:=tYs) (fe:=cE) (δ:=[ψ,ς (.g (.e (xs.map .str))),ς (.g (.e (vs.map .int)))]) (ch:=ch) (f:=λi:Nat=>.int (0+(i:Int))) (g:=Hd.d) (h:=λh:Hd=>h.1) (h':=λi=>xs.getD i qz3) (Q:=λh:Hd=>Vi (.int h.2.1)) (l:=qd9 a) λi hi=>by have hi:=qf2.mp hi;have⟨h,k1,k2,k3⟩:=E5 (ch:=ch) (xs:=.e (xs.map .str)) (vs:=.e (vs.map .int)) (x:=0+(i:Int)) (by rw[qr4];exact ixS Θ) (by rw[qr4];exact ixI Θ) ⟨_,rfl⟩ ⟨_,rfl⟩;exact⟨_,h,rfl,rfl,k1,k2,k3⟩
 have⟨ss,e4,e5,e6⟩:=de (pt:=.one 0) (ft:=tYs) (fe:=sE) (δ:=[ψ,ς (.g (.e (xs.map .str))),ς (.g (.e (vs.map .int)))]) (ch:=ch) (f:=λi:Nat=>.int (0+(i:Int))) (g:=Hd.d) (h:=λh:Hd=>h.1) (h':=λi=>xs.getD (4+i) qz3) (Q:=λh:Hd=>0<h.2.1/\h.2.1<=8) (l:=qd9 b) λi hi=>by
  have hi:=qf2.mp hi;have e:(4:Int)+(0+(i:Int))=((4+i:Nat):Int):=by push_cast;lia
  have⟨h,k1,k2,k3⟩:=E6 (ch:=ch) (xs:=.e (xs.map .str)) (vs:=.e (vs.map .int)) (x:=0+(i:Int)) (by rw[e];exact ixS Θ) (by rw[e];exact ixI Θ) ⟨_,rfl⟩ ⟨_,rfl⟩;exact⟨_,h,rfl,rfl,k1,k2,k3⟩
 have⟨inc,e7,e8,e9⟩:=de (pt:=.one 0) (ft:=tYs) (fe:=eCa 1 F3 (aCn (eV 0) aNl)) (δ:=[ψ]) (ch:=ch) (f:=Dt.int) (g:=Dt.int) (h:=λ_:Int=>()) (h':=λ_=>()) (Q:=λi=>Vi (.int i)) (l:=ls) λi hi=>by have⟨w,hw,h3⟩:=iQ (ch:=ch) i;exact⟨[ς (I i)],w,rfl,rfl,iS (cs:=[I i]) rfl ⟨rfl,rfl⟩ h3,hw,rfl⟩
 have hcl:cs.length=a:=by have:=congrArg ql7 e3;simpa using this
 have hsl:ss.length=b:=by have:=congrArg ql7 e6;simpa using this
 have hil:inc.length=d:=by have:=congrArg ql7 e9;simpa[hl2] using this
 refine⟨(xs.drop 6).take 4,cs,ss,inc,⟨by simp[hx2],Θ,Θ,?_,e2',e5,e8⟩,?_⟩
 .rw[qd3,e3,e6];have:(qd9 a).map (λi=>xs.getD i qz3)++(qd9 b).map (λi=>xs.getD (4+i) qz3)=(qd9 a++(qd9 b).map (4 + ·)).map λi=>xs.getD i qz3:=by simp[qb1]
  rw[this];refine n6 hx3 ?_ λi hi=>?_
  .rw[qf4];refine⟨qq0,?_,λi hi j hj e=>?_⟩
   .exact qm6 _ (λa b h q=>h Θ) qq0
   .have⟨k,_,rfl⟩:=qb8.mp hj;have:=qf2.mp hi;lia
  .rcases qg9.mp hi with hi|hi
   .have:=qf2.mp hi;lia
   .have⟨k,hk,rfl⟩:=qb8.mp hi;have:=qf2.mp hk;lia
 .obtain⟨X,hX⟩:∃X:Dt,X=.e (xs.map .str):=⟨_,rfl⟩;obtain⟨V,hV⟩:∃V:Dt,V=.e (vs.map .int):=⟨_,rfl⟩;have x6:ixD V (.int 6)=ς (.int (vs.getD 6 0)):=by rw[hV];exact ixI (k:=6) Θ
  have x7:ixD V (.int 7)=ς (.int (vs.getD 7 0)):=by rw[hV];exact ixI (k:=7) Θ
  have x8:ixD V (.int 8)=ς (.int (vs.getD 8 0)):=by rw[hV];exact ixI (k:=8) Θ
  have vV:∀d,ixV ch (.g V) d=(ixD V d).map .g:=λd=>rfl
  have Z:gSl X (ς 6) (ς 10)=ς (.e (((xs.drop 6).take 4).map .str)):=by rw[hX];exact pS Dt.str xs 6 10 Θ Θ
  rw[<- hX]at hx1 e1 e4;rw[<- hV]at W e1 e4;obtain⟨C,hC⟩:∃C:Dt,C=.e (cs.map Hd.d):=⟨_,rfl⟩;obtain⟨D,hD⟩:∃D:Dt,D=.e (ss.map Hd.d):=⟨_,rfl⟩;obtain⟨U,hE⟩:∃U:Dt,U=.e (inc.map .int):=⟨_,rfl⟩;obtain⟨Y,hY⟩:∃Y:Dt,Y=.e (ns.map .int):=⟨_,rfl⟩;rw[<- hY]at g0 g1 g2 ⊢;have s1:=dX (i:=1) (δ:=[ς (.g Y),ψ,ψ,ψ,ψ,ψ]) (iS (n:=2) (F:=F0) (fs:=aCn (eCa 2 F1 (aCn (eV 0) (aCn (eK (.int 0)) aNl))) (aCn (eK (.int 12)) aNl)) (dq (iS (cs:=[.g Y,I 0]) rfl ⟨rfl,rfl⟩ g0) (dq (c:=I 12) rfl rfl)) ⟨rfl,rfl⟩ hx1) rfl;have s2:=dX (i:=2) (δ:=[ς (.g Y),ς (.g X),ψ,ψ,ψ,ψ]) (iS (n:=2) (F:=F2) (fs:=aCn (eCa 2 F1 (aCn (eV 0) (aCn (eK (.int 1)) aNl))) (aCn (eK (.int 12)) aNl)) (dq (iS (cs:=[.g Y,I 1]) rfl ⟨rfl,rfl⟩ g1) (dq (c:=I 12) rfl rfl)) ⟨rfl,rfl⟩ W) rfl
  have i3:e2 .v oAdd.g (eK (.int 1)) (e2 .v oMod.g (eIx (eV 2) (eK (.int 6))) (eK (.int 3))) [ς (.g Y),ς (.g X),ς (.g V),ψ,ψ,ψ] ch=ς (I a,ch):=by rw[ha];simp! only[];dsimp! [vV,x6,oMod,eN]
  have s3:=dX (i:=3) (δ:=[ς (.g Y),ς (.g X),ς (.g V),ψ,ψ,ψ]) (dh (src:=[ψ,ς 1,ς 2]) (dH (dg i3) (aK Θ)) rfl e1 (by rw[qa2,qb7];lia)) rfl
  have i4:e2 .v oAdd.g (eK (.int 1)) (e2 .v oMod.g (eIx (eV 2) (eK (.int 7))) (eK (.int 2))) [ς (.g Y),ς (.g X),ς (.g V),ς (.g C),ψ,ψ] ch=ς (I b,ch):=by rw[hb];simp! only[];dsimp! [vV,x7,oMod,eN]
  have s4:=dX (i:=4) (δ:=[ς (.g Y),ς (.g X),ς (.g V),ς (.g C),ψ,ψ]) (dh (src:=[ψ,ς 1,ς 2]) (dH (dg i4) (aK Θ)) rfl e4 (by rw[qa2,qb7];lia)) rfl
  have i5:e2 .v oMod.g (eIx (eV 2) (eK (.int 8))) (eK (.int 7)) [ς (.g Y),ς (.g X),ς (.g V),ς (.g C),ς (.g D),ψ] ch=ς (I d,ch):=by rw[hd];simp! only[];dsimp! [vV,x8,oMod,eN]
  have j5:iE (eCa 2 F2 (aCn (eCa 2 F1 (aCn (eV 0) (aCn (eK (.int 2)) aNl))) (aCn (e2 .v oMod.g (eIx (eV 2) (eK (.int 8))) (eK (.int 7))) aNl))) [ς (.g Y),ς (.g X),ς (.g V),ς (.g C),ς (.g D),ψ] ch=ς (ls.map .int,ch):=by exact E7 (iS (F:=F2) (cs:=[I c2,I d]) (dq (iS (cs:=[.g Y,I 2]) rfl ⟨rfl,rfl⟩ g2) (dg i5)) ⟨rfl,rfl⟩ hl1) rfl
  have s5:=dX (i:=5) (δ:=[ς (.g Y),ς (.g X),ς (.g V),ς (.g C),ς (.g D),ψ]) (dh (src:=[ψ]) j5 rfl e7 (by rw[qa2,qb7];lia)) rfl
  have s6:eSl .v (eV 1) (ς (eK (.int 6))) (ς (eK (.int 10))) [ς (.g Y),ς (.g X),ς (.g V),ς (.g C),ς (.g D),ς (.g U)] ch=ς (.g (.e (((xs.drop 6).take 4).map .str)),ch):=by simp[eSl,fOp,eV,eK,lent,cu,vw,Z,fin,T.d]
  rw[q4];rw[<- hC]at s3;rw[<- hD]at s4;rw[<- hE]at s5
  have s7:eTu (aCn (eSl .v (eV 1) (ς (eK (.int 6))) (ς (eK (.int 10)))) (aCn (eV 3) (aCn (eV 4) (aCn (eV 5) aNl)))) [ς (.g Y),ς (.g X),ς (.g V),ς (.g C),ς (.g D),ς (.g U)] ch=ς (.g (.t [.e (((xs.drop 6).take 4).map .str),C,D,U]),ch):=by unfold eTu;rw[dq s6 (dq (c:=.g C) rfl (dq (c:=.g D) rfl (dq (c:=.g U) rfl rfl)))];simp[dats,qb7]
  rw[hC,hD,hE]at s7;have O:=jO (g2:=dQ) (jN s7 rfl);rw[<- hC,<- hD,<- hE]at O;have:=fX (n:=6) (cs:=[.g Y]) (av s1 (av s2 (av s3 (av s4 (av s5 O)))));rw[this,hC,hD,hE]
end
variable{bx:η Str}{inc:η Int}
section
variable{ch:CH}
theorem CY{V:Dt}{W O w n:Int}(h4:ixV ch (.g V) (.int 4)=ς (I W))(U:ixV ch (.g V) (.int 5)=ς (I O))(Z:0<=w)(hn:w+1<n):∃t,0<=t/\t<n/\F6 [.g V,I w,I n] ch=ς (I t,ch):=by
 by_cases h:W%6=0
 .exact⟨O%n,qg1 _ Θ,qg7 _ Θ,xR (.c 0 h4 (.t 1 (eqI (decide_eq_true h)) (.c 0 U (.t 0 (mdI (v:=O) rfl (show 0<n by lia)) .nil))))⟩
 .have Y:=qg1 O (show n-1-w≠0 by lia);have b1:=qg7 O (show 0<n-1-w by lia);exact⟨w+1+O%(n-1-w),Θ,Θ,xR (.c 0 h4 (.t 1 (eqI (decide_eq_false h)) (.c 0 U (.t 2 (mdI (v:=O) rfl (show 0<n-1-w by lia)) .nil))))⟩
theorem yI{i:Int}(W:0<=i)(h1:i<8):∃s,ixD (.str "+-*<=&|^") (.int i)=ς (.str s):=by
 have U:(qd0 "+-*<=&|^").length=8:=by decide +kernel
 have⟨g,Y,_⟩:=yi (x:="+-*<=&|^") (i:=i) (by rw[U];decide) W (by rw[U];exact h1);have O:gIx (.str "+-*<=&|^") (.int i)=ς (.f (.str ⟨#[g]⟩)):=Y;refine⟨⟨#[g]⟩,?_⟩;show(match (ψ:ζ (ζ Dt))with|some r=>r|none=>match gIx (.str "+-*<=&|^") (.int i)with|some (.f y)=>ς y|_=>ψ)=_;rw[O]
def RwD(cs ss:η Hd)(w n:Int)(r:Rw):Prop:=RwP cs ss r/\∀p,(match r with
 |.go t=>p=t
 |.ife _ t=>p=t\/p=w+1
 |.fin _=>False
 |_=>p=w+1)->0<=p/\p<n
theorem n8{α:Type}{f:α->Dt}{l:η α}(hl:0<l.length)(v:Int):∃a∈l,ixV ch (.g (.e (l.map f))) (.int (v%(l.length:Int)))=ς (.g (f a)):=by
 have U:=qg1 v (show(l.length:Int)≠0 by lia);have b1:=qg7 v (show(0:Int)<l.length by lia);have⟨k,W⟩:=qh9 U;have O:k<l.length:=by lia
 refine⟨l[k],qp9 O,?_⟩;show(ixD (.e (l.map f)) (.int (v%(l.length:Int)))).map CV.g=_;rw[W,fm O];rfl
theorem yJ{cs:η Hd}(W:Wd bx cs ss inc)(cell w n:Int)(hw:0<=w)(hn:w+1<n):∃r,RwD cs ss w n r/\F7 [I cell,I w,I n,.g (wdD bx cs ss inc)] ch=ς (.g r.d,ch):=by
 have⟨vs,hv1,hv2,hv3⟩:=dC (ch:=ch) cell 8 Θ;obtain⟨V,hV⟩:∃V:Dt,V=.e (vs.map .int):=⟨_,rfl⟩
 have xv:∀k:Nat,k<8->ixV ch (.g V) (.int k)=ς (I (vs.getD k 0)):=λk hk=>by rw[hV];show(ixD _ _).map CV.g=_;rw[ixI Θ];rfl
 rw[<- hV]at hv1;have sm:=λk (h:k<8)=>zK hv3 (k:=k) Θ
 have x0:ixV ch (.g V) (.int 0)=ς (I (vs.getD 0 0)):=xv 0 Θ;have x1:ixV ch (.g V) (.int 1)=ς (I (vs.getD 1 0)):=xv 1 Θ;have x2:ixV ch (.g V) (.int 2)=ς (I (vs.getD 2 0)):=xv 2 Θ;have x3:ixV ch (.g V) (.int 3)=ς (I (vs.getD 3 0)):=xv 3 Θ;have x6:ixV ch (.g V) (.int 6)=ς (I (vs.getD 6 0)):=xv 6 Θ;have x4:ixV ch (.g V) (.int 4)=ς (I (vs.getD 4 0)):=xv 4 Θ;have x5:ixV ch (.g V) (.int 5)=ς (I (vs.getD 5 0)):=xv 5 Θ;have x7:ixV ch (.g V) (.int 7)=ς (I (vs.getD 7 0)):=xv 7 Θ;have sm0:=(sm 0 Θ).1;clear xv sm;generalize vs.getD 0 0=y0 at*
 generalize vs.getD 1 0=y1 at*
 generalize vs.getD 2 0=y2 at*
 generalize vs.getD 3 0=y3 at*
 generalize vs.getD 4 0=y4 at*
 generalize vs.getD 5 0=y5 at*
 generalize vs.getD 6 0=y6 at*
 generalize vs.getD 7 0=y7 at*
 have⟨x,_,hx⟩:=n8 (ch:=ch) (f:=Dt.str) (l:=bx) (by have:=W.b4;lia) y1;have⟨c,hcm,hc⟩:=n8 (ch:=ch) (f:=Hd.d) (l:=cs) W.c0.1 y6;have⟨s,hsm,hs⟩:=n8 (ch:=ch) (f:=Hd.d) (l:=ss) W.s0.1 y6;have⟨a,ha,fa⟩:=ll (ch:=ch) y2 (xs:=bx) (by intro e;have:=W.b4;rw[e]at this;cases this);have⟨b,hb,fb⟩:=ll (ch:=ch) y3 (xs:=bx) (by intro e;have:=W.b4;rw[e]at this;cases this);have lB:bLen.g [.e (bx.map .str)]=ς (.f (.int bx.length)):=by simp[bLen,fL]
 have lC:bLen.g [.e (cs.map Hd.d)]=ς (.f (.int cs.length)):=by simp[bLen,fL]
 have lD:bLen.g [.e (ss.map Hd.d)]=ς (.f (.int ss.length)):=by simp[bLen,fL]
 have pB:(0:Int)<bx.length:=by have:=W.b4;lia
 have pC:(0:Int)<cs.length:=by have:=W.c0.1;lia
 have pD:(0:Int)<ss.length:=by have:=W.s0.1;lia
 have⟨t,ht0,ht1,ht⟩:=CY x4 x5 hw hn;have nx:∀p,p=w+1->0<=p/\p<n:=λp e=>by lia
 have hnm:c.1∈cs.map (·.1):=qb8.mpr ⟨c,hcm,rfl⟩;have hsf:s.1∈ss.map (·.1):=qb8.mpr ⟨s,hsm,rfl⟩;have P:=λ{g:η An}{L:η Prop}(z:Oa g L)=>Oa.v 0 hv1 (.c 0 x1 (.t 0 lB (.t 0 (mdI (v:=y1) rfl pB) (.c 0 hx (.c 0 x6 (.t 0 lC (.t 0 (mdI (v:=y6) rfl pC) (.c 0 hc (.c 1 x6 (.t 0 lD (.t 0 (mdI (v:=y6) rfl pD) (.c 0 hs (.c 1 x2 (.v 0 fa (.c 0 x3 (.v 0 fb (.c 0 x0 z)))))))))))))))))
 by_cases k5:y0%23<5
 .have⟨sg,hsg⟩:=yI (i:=y7%8) Θ Θ
  have hsg':ixV ch (.g (.str "+-*<=&|^")) (.int (y7%8))=ς (.g (.str sg)):=by show(ixD (.str "+-*<=&|^") (.int (y7%8))).map CV.g=_;rw[hsg];rfl
  exact⟨.op x sg a b,⟨⟨ha,hb⟩,nx⟩,xR (P (.t 1 (ltI (decide_eq_true k5)) (.c 0 x7 (.c 0 hsg' .nil))))⟩
 have k5':=ltI (decide_eq_false k5);by_cases k17:y0%23<17
 .have k17':=ltI (decide_eq_true k17);rcases(show y0%23%4=0\/y0%23%4=1\/y0%23%4=2\/y0%23%4=3 by lia)with q|q|q|q
  .exact⟨.load x c.1,⟨hnm,nx⟩,xR (P (.t 1 k5' (.t 0 k17' (.t 0 (mdI q Ω) .nil))))⟩
  .exact⟨.store c.1 a,⟨⟨hnm,ha⟩,nx⟩,xR (P (.t 1 k5' (.t 0 k17' (.t 0 (mdI q Ω) .nil))))⟩
  .exact⟨.take x s.1 a,⟨⟨hsf,ha⟩,nx⟩,xR (P (.t 1 k5' (.t 0 k17' (.t 0 (mdI q Ω) .nil))))⟩
  .exact⟨.lay s.1 a b,⟨⟨hsf,ha,hb⟩,nx⟩,xR (P (.t 1 k5' (.t 0 k17' (.t 0 (mdI q Ω) .nil))))⟩
 have k17':=ltI (decide_eq_false k17);by_cases k20:y0%23<20
 .have k20':=ltI (decide_eq_true k20);rcases(show y0%23%3=0\/y0%23%3=1\/y0%23%3=2 by lia)with q|q|q
  .exact⟨.copy x a,⟨ha,nx⟩,xR (P (.t 1 k5' (.t 0 k17' (.t 0 k20' (.t 0 (mdI q Ω) .nil)))))⟩
  .exact⟨.hear x,⟨trivial,nx⟩,xR (P (.t 1 k5' (.t 0 k17' (.t 0 k20' (.t 0 (mdI q Ω) .nil)))))⟩
  .exact⟨.say a,⟨ha,nx⟩,xR (P (.t 1 k5' (.t 0 k17' (.t 0 k20' (.t 0 (mdI q Ω) .nil)))))⟩
 have k20':=ltI (decide_eq_false k20);by_cases k22:y0%23<22
 .exact⟨.ife x t,⟨trivial,λp hp=>by rcases hp with rfl|rfl;exact⟨ht0,ht1⟩;lia⟩,xR (P (.t 1 k5' (.t 0 k17' (.t 0 k20' (.t 0 (ltI (decide_eq_true k22)) (.v 0 ht .nil))))))⟩
 have k22':=ltI (decide_eq_false k22);rcases(show y5/64%3=0\/y5/64%3=1\/y5/64%3=2 by lia)with q|q|q
 .exact⟨.fin a,⟨ha,λp hp=>hp.elim⟩,xR (P (.t 1 k5' (.t 0 k17' (.t 0 k20' (.t 0 k22' (.v 0 ht (.c 0 x5 (.t 1 (mdI q Ω) .nil))))))))⟩
 .exact⟨.say b,⟨hb,nx⟩,xR (P (.t 1 k5' (.t 0 k17' (.t 0 k20' (.t 0 k22' (.v 0 ht (.c 0 x5 (.t 1 (mdI q Ω) .nil))))))))⟩
 .exact⟨.go t,⟨trivial,λp hp=>by subst hp;exact⟨ht0,ht1⟩⟩,xR (P (.t 1 k5' (.t 0 k17' (.t 0 k20' (.t 0 k22' (.v 0 ht (.c 0 x5 (.t 1 (mdI q Ω) .nil))))))))⟩
end
section
variable{ch:CH}
theorem E8{d:Dt}(hl:l.length<=1000):oAdd.g (.t l) (.t [d])=ς (.f (.t (l++[d]))):=by
 cases l with
 |nil=>rfl
 |cons a l=>
  show orO eM iA _ _=_;unfold orO eM;have:(a::l).length+[d].length<=qa5:=by rw[qb7];simp at hl ⊢;lia
  rwa[this,true_and];simp
abbrev pE:Fg:=eCa 4 F7 (aCn (eIx (eV 1) (eV 0)) (aCn (eV 0) (aCn (e2 .v oAdd.g (eB .v bLen.g (aCn (eV 1) aNl)) (eK (.int 1))) (aCn (eV 2) aNl))))
theorem E9{S W:Dt}{x O n:Int}(h1:ixV ch (.g S) (.int x)=ς (I O))(h2:bLen.g [S]=ς (.f (.int n)))(U:F7 [I O,I x,I (n+1),.g W] ch=ς (.g r.d,ch)):pE [ς (I x),ς (.g S),ς (.g W)] ch=ς (.g r.d,ch):=by simp! only[];simp[lent,vw,vws,fin,T.d,CV.old,h1,h2,oAdd,orO,eM,U]
theorem Fa{fs:FM (η CV)}(hs:fs δ ch=ς (ds.map .g,ch))(hl:ds.length<=qa5):eTu fs δ ch=ς (.g (.t ds),ch):=by unfold eTu;rw[hs,qa0];dsimp only;rw[if_pos (by rw[qa2];exact hl),bw]
theorem pT:∀ds:η Dt,vws ch (ds.map .g)=ς ds
 |[]=>rfl
 |d::ds=>by show(vws ch (ds.map .g)).map (d::·)=_;rw[pT ds];rfl
theorem v4{m:Md}{g:η Dt->ζ T}{fs:FM (η CV)}{t:T}(hs:fs δ ch=ς (ds.map .g,ch))(O:g ds=ς t):eB m g fs δ ch=fin m ch t:=by unfold eB kB;rw[hs,qa0];dsimp only;rw[pT,qa0,O];rfl
theorem v5{cs:η Hd}{i:Nat}{n p:Int}(h:RwD cs ss i n r)(hp:jQ i r p):0<=p/\p<n:=h.2 p (by cases r<;>exact hp)
theorem yK{cs:η Hd}(W:Wd bx cs ss inc)(Y:η Int)(hm:Y.length<=100)(O:Key)(hla:bE O):∃R:η Rw,(0<R.length/\R.length<=1000)/\(∀r∈R,RwP cs ss r)/\(∀(i:Nat) r p,R[i]?=ς r->jQ i r p->∃j:Nat,p=j/\j<R.length)/\R.length=Y.length+1/\F8 [.g (.e (Y.map .int)),.g (wdD bx cs ss inc),.g (aB O)] ch=ς (.g (pgm cs ss R),ch):=by
 obtain⟨S,hS⟩:∃S:Dt,S=.e (Y.map .int):=⟨_,rfl⟩;have lS:bLen.g [S]=ς (.f (.int Y.length)):=by rw[hS];simp[bLen,fL]
 have⟨ys,e1,Z,e3⟩:=de (pt:=.one 0) (ft:=tYs) (fe:=pE) (δ:=[ψ,ς (.g S),ς (.g (wdD bx cs ss inc))]) (ch:=ch) (f:=λi:Nat=>.int (0+(i:Int))) (g:=λp:Nat×Rw=>p.2.d) (h:=λp:Nat×Rw=>p.1) (h':=λi=>i) (Q:=λp:Nat×Rw=>RwD cs ss p.1 (Y.length+1) p.2) (l:=qd9 Y.length) λi hi=>by have hi:=qf2.mp hi;have⟨r,U,h⟩:=yJ (ch:=ch) W (Y.getD i 0) (i:Int) (Y.length+1) Θ Θ;refine⟨[ς (I (0+(i:Int))),ς (.g S),ς (.g (wdD bx cs ss inc))],(i,r),rfl,rfl,?_,U,rfl⟩;rw[qr4];refine E9 ?_ lS h;rw[hS];show(ixD _ _).map CV.g=_;rw[ixI hi];rfl
 have hl:ys.length=Y.length:=by have:=congrArg ql7 e3;simpa using this
 refine⟨ys.map (·.2)++[.fin O],by simp;lia,λr U=>?_,λi r p U hp=>?_,by simp[hl],?_⟩
 .rcases qg9.mp U with U|U
  .have⟨y,hy,rfl⟩:=qb8.mp U;exact(Z y hy).1
  .simp at U;subst U;exact hla
 .rcases qj9 i ys.length with hi|hi
  .rw[qi5 ‹hi›,qa9]at U;have⟨y,hy,rfl⟩:=mS U;have h1:(ys.map λp=>p.1)[i]?=ς y.1:=by rw[qa9,hy];rfl
   have h2:(ys.map λp=>p.1)[i]?=ς i:=by rw[e3];simp[show i<Y.length by lia]
   have hfi:y.1=i:=by rw[h1]at h2;exact qd5 h2
   have hq:=Z y (qa4 hy);rw[hfi]at hq;have:=v5 hq hp;exact⟨p.toNat,Θ,by simp;lia⟩
  .have hi2:i=ys.length:=by have:=aj U;simp at this;lia
   subst hi2;simp at U;subst U;exact hp.elim
 .have s1:=dX (i:=3) (δ:=[ς (.g S),ς (.g (wdD bx cs ss inc)),ς (.g (aB O)),ψ]) (ch:=ch) (dh (src:=[ψ,ς 0,ς 1]) (fi:=iR 1 (aCn (eB .v bLen.g (aCn (eV 0) aNl)) aNl)) (dH (dg (by simp! only[];simp[lent,vw,vws,lS,fin,T.d])) (aK Θ)) rfl e1 (by rw[qa2,qb7];lia)) rfl;have ad:=E8 (l:=ys.map λp=>p.2.d) (d:=.t [.str "end",aB O]) (by simp;lia);have ra:e2 .v oAdd.g (eB .v bTup.g (aCn (eV 3) aNl)) (eTu (aCn (eTu (aCn (eK (.str "end")) (aCn (eV 2) aNl))) aNl)) [ς (.g S),ς (.g (wdD bx cs ss inc)),ς (.g (aB O)),ς (.g (.e (ys.map λp=>p.2.d)))] ch=ς (.g (.t ((ys.map λp=>p.2.d)++[.t [.str "end",aB O]])),ch):=o8 (x:=.g (.t (ys.map λp=>p.2.d))) (y:=.g (.t [.t [.str "end",aB O]])) rfl rfl rfl rfl ad;have hp:pgm cs ss (ys.map (·.2)++[.fin O])=.t [.t (cs.map Hd.d),.t (ss.map Hd.d),.t ((ys.map λp=>p.2.d)++[.t [.str "end",aB O]])]:=by simp[Rw.d,qb1]
  rw[hp,<- hS,q8];refine fX (av s1 (jO (jN ?_ rfl)));have r1:eB .v bTup.g (aCn (eIx (eV 1) (eK (.int 1))) aNl) [ς (.g S),ς (.g (wdD bx cs ss inc)),ς (.g (aB O)),ς (.g (.e (ys.map λp=>p.2.d)))] ch=ς (.g (.t (cs.map Hd.d)),ch):=rfl;have r2:eB .v bTup.g (aCn (eIx (eV 1) (eK (.int 2))) aNl) [ς (.g S),ς (.g (wdD bx cs ss inc)),ς (.g (aB O)),ς (.g (.e (ys.map λp=>p.2.d)))] ch=ς (.g (.t (ss.map Hd.d)),ch):=rfl;exact Fa (ds:=[.t (cs.map Hd.d),.t (ss.map Hd.d),.t ((ys.map λp=>p.2.d)++[.t [.str "end",aB O]])]) (dq r1 (dq r2 (dg ra))) (by rw[qb7];simp)
theorem pU(n:Int)(hn:xs.Nodup)(hl:xs.length<=6):∃bs:η Str,(bs.Nodup/\bs.length<=6)/\F9 [I n,.g (.e (xs.map .str))] ch=ς (.g (.t (bs.map .str)),ch):=by
 obtain⟨X,U⟩:∃X:Dt,X=.e (xs.map .str):=⟨_,rfl⟩;have lX:bLen.g [X]=ς (.f (.int xs.length)):=by rw[U];simp[bLen,fL]
 have xX:∀k:Nat,k<xs.length->ixV ch (.g X) (.int k)=ς (.g (.str (xs.getD k qz3))):=λk hk=>by rw[U];show(ixD _ _).map CV.g=_;rw[ixS hk];rfl
 obtain⟨q,hq⟩:∃q:Nat->Bool,q=λi:Nat=>decide (qw7 (n/2^((0+(i:Int)).toNat)) 1=1):=⟨_,rfl⟩
 have e1:=bU (pt:=.one 0) (ft:=iZ (e2 .v oEq.g (e2 .v oBan.g (e2 .v oShr.g (eV 2) (eV 0)) (eK (.int 1))) (eK (.int 1)))) (fe:=eIx (eV 1) (eV 0)) (δ:=[ψ,ς (.g X),ς (I n)]) (ch:=ch) (f:=λi:Nat=>.int (0+(i:Int))) (g:=λi:Nat=>.str (xs.getD i qz3)) (p:=q) (l:=qd9 xs.length) λi hi=>by
  refine⟨[ς (I (0+(i:Int))),ς (.g X),ς (I n)],rfl,?_,λ_=>?_⟩
  .rw[hq];show _=ς (decide (qw7 (n/2^((0+(i:Int)).toNat)) 1=1),ch);have h0:(0:Int)<=0+(i:Int):=by lia
   generalize (0:Int)+(i:Int)=z at h0 ⊢;simp! only[];simp[lent,vw,fin,T.d,dO,oShr,x9,h0,oBan,qr,oEq,gEq,eqdi]
  .rw[qr4];simp! only[];simp[lent,vw,xX i (qf2.mp hi)]
 obtain⟨ys,O⟩:∃ys:η Str,ys=((qd9 xs.length).filter q).map λi=>xs.getD i qz3:=⟨_,rfl⟩
 have Y:ys.Nodup:=by rw[O];exact n6 hn (List.Pairwise.filter _ qq0) λi hi=>qf2.mp (qr5.mp hi).1
 have hyl:ys.length<=6:=by rw[O,qa2];have:=ql6 q (qd9 xs.length);rw[qy0]at this;lia
 have Z:aF (bnd (.one 0)) (iZ (e2 .v oEq.g (e2 .v oBan.g (e2 .v oShr.g (eV 2) (eV 0)) (eK (.int 1))) (eK (.int 1)))) (eIx (eV 1) (eV 0)) [ψ,ς (.g X),ς (I n)] (aG 0 xs.length) ch=ς ((ys.map .str).map .g,ch):=by rw[O,qd2,qd2];exact e1
 have W:=dh (src:=[ψ,ς 1,ς 0]) (δ:=[ς (I n),ς (.g X)]) (fi:=iR 1 (aCn (eB .v bLen.g (aCn (eV 1) aNl)) aNl)) (dH (dg (by simp! only[];simp[lent,vw,vws,lX,fin,T.d])) (aK Θ)) rfl Z (by rw[qa2,qb7];lia)
 have hsr:bSrt.g [.e (ys.map .str)]=ς (.e ((dG ys).map .str)):=by rwa[bSrt,gD,eg,qa0,show ys.length<64 by lia,if_true]
 refine⟨dG ys,⟨(cz ys).nodup_iff.mpr Y,by rw[(cz ys).length_eq];exact hyl⟩,?_⟩;rw[<- U,q9];refine fX (jO (jN ?_ rfl));have h1:=v4 (m:=.v) (g:=bSrt.g) (ds:=[.e (ys.map .str)]) (dg W) hsr;exact v4 (m:=.v) (g:=bTup.g) (ds:=[.e ((dG ys).map .str)]) (dg h1) rfl
end
variable{s0 s1:ζ CV}{st:Int}{R:η Rw}
section
variable{ch:CH}
theorem Fb(r:Rw):∃k l,r.d=.t (.str k::l):=by cases r<;>exact⟨_,_,rfl⟩
abbrev kB':Fs:=evS (ay gc t10) (foB d10.b)
abbrev kE(s0 s1:ζ CV)(X:Dt)(w:Bool)(RR V:Dt)(st:Int)(l:η Dt)(a:ζ CV):Sl:=[s0,s1,ς (.g X),ς (.g (.bl w)),ς (.g RR),ς (.g V),ς (I st),ς (.own θ (.e l)),a]
theorem Fc{w:Bool}{O V X:Dt}{x v:Int}{l:η Dt}{k:Str}{rest:η Dt}{bs:η Str}(W:ixV ch (.g O) (.int x)=ς (.g (.t (.str k::rest))))(h4:ixV ch (.g V) (.int (x+1))=ς (I v))(U:0<st)(hb:F9 [I (v/30),.g X] ch=ς (.g (.t (bs.map .str)),ch))(hl:l.length<=1000):kB' (kE s0 s1 X w O V st l (ς (I x))) ch=ς (.nx (kE s0 s1 X w O V st l (ς (I x))) ch)\/kB' (kE s0 s1 X w O V st l (ς (I x))) ch=ς (.nx (kE s0 s1 X w O V st (l++[.t [.int x,.t (bs.map .str)]]) (ς (I x))) ch):=by
 have Y:=ix0 (ch:=ch) (d:=.str k) (l:=rest);have ap:=zD (ch:=ch) (δ:=kE s0 s1 X w O V st l (ς (I x))) (i:=7) (l:=l) (d:=.t [.int x,.t (bs.map .str)]) rfl (by rw[qb7];lia);have e:oEq.g (.str k) (.str "end")=ς (.f (.bl (decide (k=qd0 "end")))):=rfl
 have no:¬ (k=qd0 "end"/\w=θ)->kB' (kE s0 s1 X w O V st l (ς (I x))) ch=ς (.nx (kE s0 s1 X w O V st l (ς (I x))) ch)\/kB' (kE s0 s1 X w O V st l (ς (I x))) ch=ς (.nx (kE s0 s1 X w O V st (l++[.t [.int x,.t (bs.map .str)]]) (ς (I x))) ch):=λZ=>by
  by_cases h1:k=qd0 "end"
  .obtain rfl:w=ξ:=by cases w with|false=>rfl|true=>exact absurd ⟨h1,rfl⟩ Z
   rw[decide_eq_true h1]at e;by_cases h2:v%st=0
   .exact .inr (xRs (.c 0 W (.c 0 Y (.t 0 e (.c 0 h4 (.t 0 (mdI h2 U) (.c 0 h4 (.v 0 hb (.o 0 ap .nil)))))))))
   .exact .inl (xRs (.c 0 W (.c 0 Y (.t 0 e (.c 0 h4 (.t 0 (mdI (v:=v) rfl U) (.t 0 (eqI (decide_eq_false h2)) .nil)))))))
  .rw[decide_eq_false h1]at e;by_cases h2:v%st=0
   .exact .inr (xRs (.c 0 W (.c 0 Y (.t 0 e (.c 0 h4 (.t 0 (mdI h2 U) (.c 0 h4 (.v 0 hb (.o 0 ap .nil)))))))))
   .exact .inl (xRs (.c 0 W (.c 0 Y (.t 0 e (.c 0 h4 (.t 0 (mdI (v:=v) rfl U) (.t 0 (eqI (decide_eq_false h2)) .nil)))))))
 by_cases h1:k=qd0 "end"/\w=θ
 .have⟨h1,rfl⟩:=h1;rw[decide_eq_true h1]at e;exact .inr (xRs (.c 0 W (.c 0 Y (.t 0 e (.c 0 h4 (.v 0 hb (.o 0 ap .nil)))))))
 .exact no h1
theorem iT{s0 s1:ζ CV}{w:Bool}{vs:η Int}(Y:0<st)(hv:R.length+2<=vs.length)(hn:xs.Nodup)(hx:xs.length<=6)(hR:R.length<=101):∀{js:η Nat}{ks:η Kp'}{a7:ζ CV},(∀j∈js,j<R.length)->(ks.map (·.1)++js.map λj:Nat=>(j:Int)).Nodup->(∀k∈ks,k.2.Nodup/\k.2.length<=6)->ks.length+js.length<=101->∃(O:η Kp')(U:ζ CV),cZ (bnd (.one 8)) kB' (js.map λj:Nat=>.int (0+(j:Int))) (kE s0 s1 (.e (xs.map .str)) w (.t (R.map Rw.d)) (.e (vs.map .int)) st (ks.map Kp'.d) a7) ch=ς (.nx (kE s0 s1 (.e (xs.map .str)) w (.t (R.map Rw.d)) (.e (vs.map .int)) st (O.map Kp'.d) U) ch)/\(O.map (·.1)).Nodup/\∀k∈O,k.2.Nodup/\k.2.length<=6
 |[],ks,a7,_,W,hk,_=>⟨ks,a7,rfl,‹W›,hk⟩
 |j::js,ks,a7,hj,W,hk,hl=>by
  rwa[qc2]at hl;have hjl:=hj j (.head _);have⟨k,rest,hr⟩:=Fb R[j]
  have h3:ixV ch (.g (.t (R.map Rw.d))) (.int (0+(j:Int)))=ς (.g (.t (.str k::rest))):=by rw[qr4];show(ixD _ _).map CV.g=_;rw[(gM (L:=R.map Rw.d) (i:=j) (d:=R[j].d) (by rw[qa9,gQ hjl];rfl)).2,hr];rfl
  have h4:ixV ch (.g (.e (vs.map .int))) (.int (0+(j:Int)+1))=ς (I (vs.getD (j+1) 0)):=by rw[show(0:Int)+(j:Int)+1=((j+1:Nat):Int)by push_cast;lia];show(ixD _ _).map CV.g=_;rw[ixI Θ];rfl
  have⟨bs,hbs,hb⟩:=pU (ch:=ch) (vs.getD (j+1) 0/30) hn hx;rcases Fc (s0:=s0) (s1:=s1) (l:=ks.map Kp'.d) h3 h4 Y hb (by simp;lia)with e|e
  .have⟨O,U,i1,i2,i3⟩:=iT (s0:=s0) (s1:=s1) Y hv hn hx hR (js:=js) (ks:=ks) (a7:=ς (I (0+(j:Int)))) (λi hi=>hj i (.tail _ hi)) (by rw[qf4]at W ⊢;refine⟨W.1,?_,λa ha b hb=>W.2.2 a ha b (by simp at hb ⊢;exact .inr hb)⟩;have:=W.2.1;rw[qa3,qc8]at this;exact this.2) hk Θ
   exact⟨O,U,ze6 (dY rfl e) i1,i2,i3⟩
  .have hks:ks.map Kp'.d++[.t [.int (0+(j:Int)),.t (bs.map .str)]]=(ks++[((0+(j:Int),bs):Kp')]).map Kp'.d:=by simp[Kp'.d]
   rw[hks]at e
   have⟨O,U,i1,i2,i3⟩:=iT (s0:=s0) (s1:=s1) Y hv hn hx hR (js:=js) (ks:=ks++[((0+(j:Int),bs):Kp')]) (a7:=ς (I (0+(j:Int)))) (λi hi=>hj i (.tail _ hi)) (by rw[qr4];simpa[qd8] using W) (λq Z=>by rcases qg9.mp Z with Z|Z;exact hk q Z;simp at Z;subst Z;exact hbs) (by simp;lia)
   exact⟨O,U,ze6 (dY rfl e) i1,i2,i3⟩
theorem yL{l:η Int}(h:0<l.length):∃v,ixV ch (.g (.e (l.map .int))) (.int (-1))=ς (I v):=by
 have:atI (l.map Dt.int) (-1)=ς (.int (l.getD (l.length-1) 0)):=by unfold atI ixN;rw[if_neg Ω,qa2,if_pos Θ,qa0,show((-1:Int)+(l.length:Int)).toNat=l.length-1 by lia,qa9,gQ Θ,qc6,gQ Θ];rfl
 refine⟨l.getD (l.length-1) 0,?_⟩;show(ixD _ _).map CV.g=_;simp[ixD,bW,gIx,this]
theorem CZ(w:Bool){cs:η Hd}{R:η Rw}{xs:η Str}(c:Int)(Z:xs.Nodup)(hx:xs.length<=6)(hR:0<R.length/\R.length<=98):∃bg ks,(bg.Nodup/\bg.length<=6)/\(ks.map (·.1)).Nodup/\(∀k∈ks,k.2.Nodup/\k.2.length<=6)/\F10 [.g (pgm cs ss R),I c,.g (.e (xs.map .str)),.g (.bl w)] ch=ς (.g (cod bg ks),ch):=by
 have⟨vs,O,hv2,hv3⟩:=dC (ch:=ch) c (R.length+2) Θ
 have h0:ixV ch (.g (.e (vs.map .int))) (.int 0)=ς (I (vs.getD 0 0)):=by show(ixD _ (.int ((0:Nat):Int))).map CV.g=_;rw[ixI Θ];rfl
 obtain⟨st,j,Y,hq,W⟩:∃st j:Int,0<st/\vs.getD 0 0%3=j/\ixV ch (.g (.e [.int 2,.int 3,.int 5])) (.int j)=ς (I st):=by
  rcases(show vs.getD 0 0%3=0\/vs.getD 0 0%3=1\/vs.getD 0 0%3=2 by lia)with q|q|q
  .exact⟨2,0,Ω,q,rfl⟩
  .exact⟨3,1,Ω,q,rfl⟩
  .exact⟨5,2,Ω,q,rfl⟩
 have⟨ks,a7,k1,k2,k3⟩:=iT (ch:=ch) (w:=w) (s0:=ς (.g (pgm cs ss R))) (s1:=ς (I c)) (R:=R) (vs:=vs) (xs:=xs) Y Θ Z hx Θ (js:=qd9 R.length) (ks:=[]) (a7:=ψ) (λj W=>qf2.mp W) (by rwa[qg0,qm5];exact qm6 _ (λa b h q=>h Θ) qq0) Ξ (by simp;lia)
 have⟨v,hv⟩:=yL (ch:=ch) (l:=vs) Θ;have⟨bg,U,hb⟩:=pU (ch:=ch) v Z hx;have lR:bLen.g [.t (R.map Rw.d)]=ς (.f (.int R.length)):=by simp[bLen,fL]
 have s5:=cF (fi:=iR 1 (aCn (eB .v bLen.g (aCn (eV 4) aNl)) aNl)) (pt:=.one 8) (g:=kB') (ds:=aG 0 R.length) (dH (dg (v4 (m:=.v) (δ:=kE (ς (.g (pgm cs ss R))) (ς (I c)) (.e (xs.map .str)) w (.t (R.map Rw.d)) (.e (vs.map .int)) st [] ψ) (ds:=[.t (R.map Rw.d)]) (dg rfl) lR)) (aK Θ)) k1;exact⟨bg,ks,U,k2,k3,xR (.t 0 lR (.v 0 O (.c 0 h0 (.t 0 (mdI hq Ω) (.c 0 W (.o 0 s5 (.c 0 hv (.v 0 hb .nil))))))))⟩
end
theorem C0{α:Type}(f:α->Dt)(l:η α)(a b:ζ Int):∃m:η α,gSl (.e (l.map f)) a b=ς (.e (m.map f))/\m.length<=l.length/\∀x∈m,x∈l:=by
 refine⟨(l.drop (HT.sIx (l.map f).length 0 a)).take (HT.sIx (l.map f).length (l.map f).length b-HT.sIx (l.map f).length 0 a),?_,?_,λx O=>List.mem_of_mem_drop (List.mem_of_mem_take O)⟩
 .show ς (T.e (ic (l.map f) a b))=_;unfold ic;rw[List.map_take,List.map_drop]
 .rwa[qn3,qt9];lia
theorem v6{F:Fd}{ch:CH}{c n:Nat}{fs:FM (η CV)}(U:TrD F)(hs:fs δ ch=ς (cs,ch))(hc:cs.map (rn (ch.length + ·))=cs)(W:cs.all CV.old=θ)(Y:n=cs.length+1)(h:F (.ref 0::cs) [.ins c []]=ς (.g .non,a'))(hl:0<a'.length):eMk c n F fs δ ch=ς (.ref ch.length,ch++a'.map (rnO (ch.length + ·))):=by
 have e:=U.tail (ch:=ch) h;have O:rnA (ch.length + ·) (.ref 0::cs)=.ref ch.length::cs:=by show CV.ref (ch.length+0)::cs.map (rn (ch.length + ·))=_;rw[hc];rfl
 have e2:ch++[CO.ins c []].map (rnO (ch.length + ·))=ch++[.ins c []]:=rfl;rw[O,e2]at e;unfold eMk kCa;rw[hs,qa0];dsimp only;rw[if_pos ⟨by simp[Y],by simpa[CV.old] using W⟩,e,qa0];rwa[rn];rw[if_pos (by simp;lia)]
section
variable{cs ss:η Hd}{R:η Rw}{bg:η Str}{ks:η Kp'}{inc:η Dt}
theorem C1(P:Pr cs ss R bg ks inc)(ch:CH):∃(L:CH)(ρ:Nat->Nat),ρ 0=ch.length/\(∀i,ch.length<=ρ i)/\At ρ (hc (shC cs++shS ss) (hs0 cs ss R bg ks inc) ψ (aa (shC cs++shS ss) (f0 cs))) (ch++L)/\∀(fs:FM (η CV))(δ:Sl),fs δ ch=ς ([.g (pgm cs ss R),.g (cod bg ks),.own ξ (.e inc)],ch)->eMk 3 4 F21 fs δ ch=ς (.ref ch.length,ch++L):=by
 have⟨B,σ,O,k2,U⟩:=vW P;have W:0<B.length:=by have:=k2.lt (i:=0) (by show 0<_+1;lia);lia
 refine⟨B.map (rnO (ch.length + ·)),λi=>ch.length+σ i,by show ch.length+σ 0=_;rw[U];rfl,λi=>qz8 _ _,At.comp kX k2,λfs δ h=>?_⟩;exact v6 (F:=F21) (c:=3) (n:=4) (ai _) h rfl rfl rfl O W
theorem C3(P:Pr cs ss R bg ks inc)(ch:CH):∃(L:CH)(ρ:Nat->Nat),ρ 0=ch.length/\(∀i,ch.length<=ρ i)/\At ρ (pn (shS ss) (p0 cs ss R ks inc) (aa (shS ss) (f0 cs))) (ch++L)/\∀(fs:FM (η CV))(δ:Sl),fs δ ch=ς ([.g (pgm cs ss R),.g (.e inc)],ch)->eMk 4 3 F22 fs δ ch=ς (.ref ch.length,ch++L):=by
 have⟨B,σ,O,k2,U⟩:=vY P;have W:0<B.length:=by have:=k2.lt (i:=0) (by rw[ei];lia);lia
 refine⟨B.map (rnO (ch.length + ·)),λi=>ch.length+σ i,by show ch.length+σ 0=_;rw[U];rfl,λi=>qz8 _ _,At.comp kX k2,λfs δ h=>?_⟩;exact gH (F:=F22) (c:=4) (n:=3) (ds:=[pgm cs ss R,.e inc]) (ai _) h rfl O W
theorem yM (P:Pr cs ss R bg ks inc):∃ (L M b:CH) (p:Nat) (S:HS) (l:LS) (g:Vf),
  (∀(fs:FM (η CV))(δ:Sl),fs δ []=ς ([.g (pgm cs ss R),.g (cod bg ks),.own ξ (.e inc)],[])->eMk 3 4 F21 fs δ []=ς (.ref 0,L))∧
  (∀(fs:FM (η CV))(δ:Sl),fs δ L=ς ([.g (pgm cs ss R),.g (.e inc)],L)->eMk 4 3 F22 fs δ L=ς (.ref p,M))∧
  (∃q,M[0]?=ς (.ins 3 q))/\F26 [.ref 0] M=ς (.g .non,M)/\F25 [.ref 0] M=ς (.g (.bl ξ),M)/\F51 [.ref 0] M=ς (.g .non,b)∧
  Sd (fx cs ss R ks inc) (shC cs++shS ss) 10 S l g (a0 cs)/\S.res=.non/\Pair (shC cs++shS ss) (shS ss) 0 p S l g (p0 cs ss R ks inc) (a0 cs).f b:=by
 have⟨L,ρ,z1,_,A1,m1⟩:=C1 P [];have⟨M,σ,z2,l2,A2,m2⟩:=C3 P L;have O:At ρ _ (L++M):=bC A1 M
 have W:∀i j,i<(hc (shC cs++shS ss) (hs0 cs ss R bg ks inc) ψ (aa (shC cs++shS ss) (f0 cs))).length->j<(pn (shS ss) (p0 cs ss R ks inc) (aa (shS ss) (f0 cs))).length->ρ i≠σ j:=λi j hi hj e=>by have h1:ρ i<L.length:=A1.lt hi;have:=l2 j;lia
 have U:ρ 0=0:=z1;have pos:0<(hc (shC cs++shS ss) (hs0 cs ss R bg ks inc) ψ (aa (shC cs++shS ss) (f0 cs))).length:=by show 0<_+1;lia
 have Y:([CV.ref 0]:η CV).all (clV (hc (shC cs++shS ss) (hs0 cs ss R bg ks inc) ψ (aa (shC cs++shS ss) (f0 cs))).length)=θ:=by simp[clV];lia
 have st:=O.pure (F:=F26) (args:=[.ref 0]) (d:=.non) (ai _) (pj aT) Y (xR .nil);have rs:=O.pure (F:=F25) (args:=[.ref 0]) (d:=.bl ξ) (ai _) (pj aT) Y (xR .nil);have⟨S,l,g,cs',τ,k1,k2,k3,k4,k5,k6⟩:=vX P;have⟨ρ',b,Z,v⟩:=(Rn.of (F:=F51) (ai _) (pj aT) Y k1 k2 k3 k4 pos).mv O;have e0:rnA ρ [.ref 0]=[.ref 0]:=by simp[rn,U]
 rw[e0]at st rs Z;refine⟨L,L++M,b,L.length,S,l,g,λfs δ h=>m1 fs δ h,λfs δ h=>m2 fs δ h,?_,st,rs,Z,k5,k6,ρ',σ,v.at_,v.fr.at A2 W,v.sb.apart W λj hj=>A2.lt hj,v.zero.trans U,z2⟩;have:=O.get (i:=0) rfl;rw[U]at this;exact⟨_,this⟩
end
theorem main(ns:η Int)(hns:ns.length<=63):∃ch',FF gc t87 [.g (.e (ns.map .int))] []=ς (.g (.bl θ),ch'):=by
 have⟨bx,cs,ss,inc,W,hw⟩:=v3 (ch:=[]) ns;have⟨c0,g0⟩:=cJ (ch:=[]) ns 0;have⟨c3,g3⟩:=cJ (ch:=[]) ns 3;have⟨c4,g4⟩:=cJ (ch:=[]) ns 4;have⟨xs,hx1,hx2,hx3⟩:=mI (ch:=[]) c0;have⟨sm,hs1,hs2,_⟩:=C0 Dt.int ns (ς 5) (ς 35);have⟨la,hla,fla⟩:=ll (ch:=[]) (c3%2147483629) (xs:=bx) (by intro e;have:=W.b4;rw[e]at this;cases this);have⟨R,hR1,hR2,hR3,hR4,hR⟩:=yK (ch:=[]) W sm Θ la hla;have hcutN:gSl (.e (xs.map .str)) (ς 5) (ς 11)=ς (.e (((xs.drop 5).take (11-5)).map .str)):=pS Dt.str xs 5 11 Θ Θ;have hN6:((xs.drop 5).take (11-5)).Nodup:=(qo7 _ _).nodup ((List.drop_sublist _ _).nodup hx3);obtain⟨w,hgt⟩:∃w,oGt.g (.int (c4/7%4)) (.int 0)=ς (.f (.bl w)):=⟨_,rfl⟩;have⟨bg,ks,hbg,hk1,hk2,hC⟩:=CZ (ch:=[]) w (cs:=cs) (ss:=ss) (R:=R) c4 hN6 (by simp[hx2]) ⟨hR1.1,Θ⟩;have P:Pr cs ss R bg ks (inc.map .int):=⟨(by intro e;have:=W.c0.1;rw[e]at this;cases this),(by intro e;have:=W.s0.1;rw[e]at this;cases this),(by have:=W.c0.2;have:=W.s0.2;lia),W.nd,W.cv,λh hh=>(by have:=W.sv h hh;lia),hR1,hR2,hR3,hbg,hk1,hk2,λd hd=>by have⟨i,hi,rfl⟩:=qb8.mp hd;exact W.inc i hi⟩;have⟨L,M,b,p,S,l,g,m1,m2,⟨hf0,h0⟩,st0,rs0,sp0,o,hr,pw⟩:=yM P;obtain⟨Y,hY⟩:∃Y:Dt,Y=.e (ns.map .int):=⟨_,rfl⟩;have cell4:∀ch:CH,∃v,F1 [.g Y,I 4] ch=ς (I v,ch):=λch=>by rw[hY];exact cJ ns 4
 show ∃ch',F86 [.g (.e (ns.map .int))] []=ς (.g (.bl θ),ch');rw[<- hY]at hw g0 g3 g4 hs1 ⊢;obtain⟨Wd,hWd⟩:∃Wd:Dt,Wd=wdD bx cs ss inc:=⟨_,rfl⟩;have w0:∀ch,ixV ch (.g Wd) (.int 0)=ς (.g (.e (bx.map .str))):=λch=>by rw[hWd];rfl
 have w3:∀ch,ixV ch (.g Wd) (.int 3)=ς (.g (.e (inc.map .int))):=λch=>by rw[hWd];rfl
 rw[<- hWd]at hw hR;let N':Dt:=.e (xs.map .str)
 have sl1:eSl .v (eV 0) (ς (eK (.int 5))) (ς (eK (.int 35))) [ς (.g Y),ς (.g Wd),ς (.g N'),ψ,ψ,ψ,ψ,ψ,ψ,ψ,ψ,ψ] []=ς (.g (.e (sm.map .int)),[]):=by rwa[eSl,fOp,eV,qd1,qg3,lent,eK,cu,vw,hs1,fin,T.d,qa0,qb2]
 have sN:eSl .v (eV 2) (ς (eK (.int 5))) (ς (eK (.int 11))) [ς (.g Y),ς (.g Wd),ς (.g N'),ς (.g (pgm cs ss R)),ς (.own θ (.e (inc.map .int))),ψ,ψ,ψ,ψ,ψ,ψ,ψ] []=ς (.g (.e (((xs.drop 5).take (11-5)).map .str)),[]):=by have h:gSl N' (ς 5) (ς 11)=ς (.e (((xs.drop 5).take (11-5)).map .str)):=hcutN;generalize N'=Q at h ⊢;rwa[eSl,fOp,eV,qd1,qg3,lent,eK,cu,vw,h,fin,T.d,qa0,qb2]
 have kp:=mG (ch:=[]) (cs:=cs) (ss:=ss) (R:=R) (bg:=bg) (inc:=inc.map .int) hk1;have kp:eDc .v (eIx (eV 5) (eK (.int 1))) [ς (.g Y),ς (.g Wd),ς (.g N'),ς (.g (pgm cs ss R)),ς (.own θ (.e (inc.map .int))),ς (.g (cod bg ks)),ψ,ψ,ψ,ψ,ψ,ψ] []=ς (.g (.dct (ks.map λk=>.inl k.1) (ks.map λk=>.t (k.2.map .str))),[]):=kp;have kH:=m1 (aCn (eV 3) (aCn (eV 5) (aCn (eV 4) aNl))) [ς (.g Y),ς (.g Wd),ς (.g N'),ς (.g (pgm cs ss R)),ς (.own θ (.e (inc.map .int))),ς (.g (cod bg ks)),ς (.g (.dct (ks.map λk=>.inl k.1) (ks.map λk=>.t (k.2.map .str)))),ψ,ψ,ψ,ψ,ψ] rfl;have kP:=m2 (aCn (eV 3) (aCn (eIx (eV 1) (eK (.int 3))) aNl)) [ς (.g Y),ς (.g Wd),ς (.g N'),ς (.g (pgm cs ss R)),ς (.own θ (.e [])),ς (.g (cod bg ks)),ς (.g (.dct (ks.map λk=>.inl k.1) (ks.map λk=>.t (k.2.map .str)))),ς (.ref 0),ψ,ψ,ψ,ψ] (by rw[hWd];rfl);have⟨hf1,h1⟩:=pw.h1;have st1:=pw.hp (ds:=[]) (ai _) (dm o hr);have G:Go cs ss R ks (inc.map .int) 0 p 10 S l g (p0 cs ss R ks (inc.map .int)) (a0 cs) b:=⟨.inl ⟨o,hr⟩,EV P,rfl,hR1.1,pw⟩;have pre:=λ{g':η An}{L':η Prop}(z:Oa g' L')=>Oa.v 0 hw (.v 0 g0 (.v 0 hx1 (.v 0 sl1 (.v 0 g3 (.c 0 (w0 []) (.v 0 fla (.v 0 hR (.c 0 (w3 []) (.v 0 g4 (.v 0 sN (.v 0 g4 (.t 2 hgt (.v 0 hC (.v 0 kp (.v 0 kH (.v 0 kP (.h 0 h0 (.v 0 st0 (.h 0 h0 (.v 0 rs0 (.h 0 h0 (.v 0 sp0 (.h 0 h1 (.v 0 st1 (.t 0 (aN (d:=.int 0) rfl) z)))))))))))))))))))))))))
 rcases pR (s0:=ς (.g Y)) (s1:=ς (.g Wd)) (s4:=ς (.own θ (.e []))) (s5:=ς (.g (cod bg ks))) (s6:=ς (.g (.dct (ks.map λk=>.inl k.1) (ks.map λk=>.t (k.2.map .str))))) (ns:=xs) (a9:=ς (.g (.e []))) (a10:=ψ) (a11:=ψ) P (ds:=aG 0 100) G (by rw[rF];lia)with ⟨N1,S1,l1,g1,P1,a1,b1,d9,d10,d11,e,G1⟩|⟨N1,S1,l1,g1,P1,a1,b1,v,d10,d11,e,hN1,E1⟩
 .have i:=cF (fi:=iR 1 (aCn (eK (.int 100)) aNl)) (pt:=.one 10) (g:=lwB) (ds:=aG 0 100) (dH (j:=100) rfl (aK Θ)) e;have⟨hf2,h2⟩:=G1.w.h1;have⟨hf3,h3⟩:=G1.w.h2;have en:=G1.w.pp (ds:=[]) (ai _) (fg G1.rs);have rs:=G1.w.hp (ds:=[]) (ai _) (ld (by rcases G1.hs with ⟨_,h⟩|⟨_,_,h⟩;exact h;exact h.rs));exact⟨b1,xR (pre (.o 0 i (.h 0 h3 (.v 0 en (.h 0 h2 (.v 0 rs .nil))))))⟩
 .have i:=cF (fi:=iR 1 (aCn (eK (.int 100)) aNl)) (pt:=.one 10) (g:=lwB) (ds:=aG 0 100) (dH (j:=100) rfl (aK Θ)) e;have⟨hf2,h2⟩:=E1.w.h1;have⟨hf3,h3⟩:=E1.w.h2;have en:=E1.w.pp (ds:=[]) (ai _) (mz (i:=v) rfl);have⟨ρ,σ,A1,A2,_,e1,e2⟩:=id E1.w;have rt:=yx (rw:=.t (R.map Rw.d)) (pQ P) (by have:=W.c0.2;lia) (by have:=W.s0.2;lia) E1.sd E1.pa A1 A2 (by have:=E1.pa.on;lia);rw[e1,e2]at rt;have sp:=E1.w.hp (ds:=[]) (ai _) (rj (i:=v) rfl);have⟨c,gc4⟩:=cell4 b1;have p40:oPow.g (.int 2) (.int 40)=ς (.f (.int 1099511627776)):=by simp[oPow,tp,lG]
  have fl:=E1.w.hp (ds:=[.int (c%1099511627776)]) (ai _) (rA (i:=v) rfl);exact⟨b1,xR (pre (.o 0 i (.h 0 h3 (.v 0 en (.v 0 rt (.h 0 h2 (.v 0 sp (.h 0 h2 (.v 0 gc4 (.t 0 p40 (.v 0 fl (.h 0 h2 (.v 0 sp (.v 0 rt .nil))))))))))))))⟩
end L2
open PySem PySem.W PyProof.Rows in
set_option maxRecDepth 100000 in
set_option maxHeartbeats 0 in
theorem PySem.Challenge.cw_dimhouse_k72_no_failing_holds : PySem.Challenge.rw_dimhouse_k72_no_failing.Holds := by
 w_on; refine holds_law P72H.ws λsaid => ?_
 refine holds_open (q := P72H.seen) (loose := []) (Xt := λs => xlAt P72H.seen [] s && recOk (RowW.records (OpenRow.toRowW PySem.Challenge.rw_dimhouse_k72_no_failing.row)) s) (XP := XL P72H.seen []) (Yf := Hook.obs P72H.hook) (Ya := Hook.val P72H.hook) (YP := Hook.says P72H.hook) (N := 8500) ?hl (Hook.of P72H.hook) (Hook.keeps P72H.hook) (λs e => xl_of s (Bool.and_eq_true_iff.mp e).1) XL.keeps (by rfl) (by rfl) (by rfl) (λs e => recFacts_of (Bool.and_eq_true_iff.mp e).2) (by rfl) (by first | assumption | decide +kernel) (by decide +kernel) ⟨rfl, rfl, rfl, rfl, rfl, by decide +kernel⟩ ?hw ?hc
 case hl => exact LeftO.of_split "special-get-raises" λw => P72H.map_two (ZH.tp3 (P72H.ra_false w) (P72H.rb_false w) (P72H.rc_false w)) (ZH.tp3 (P72H.ra_true w) (P72H.rb_true w) (P72H.rc_true w))
 case hw => w_witness2
 delta P72H.hook
 k_fill
 refine L2.zwalk (l:=PySem.Challenge.rw_dimhouse_k72_no_failing) (x:="_law_script") L2.L L2.gc L2.main ⟨rfl,rfl,rfl⟩ ?R rfl rfl (λw h Y=>PySem.W.kIn_of Y) (λw=>by kernel_rfl) ?C
 case R=>exact ⟨rfl,by decide +kernel,by decide +kernel⟩
 case C=>intro w;kernel_rfl
