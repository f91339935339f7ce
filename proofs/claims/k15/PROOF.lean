import PyProof.Rows.All
import Wide.All
import OpenK.AllK
import Wide.FinOn
import Lean
import PyProof.EqAt
import PyProof.EqKinds
import PyProof.TupleCall
import PySem.Str
import PyProof.NeKinds
import PyProof.SetKind
import PyProof.DictStraight
import PyProof.Rows.TupIn
import PyProof.CollectIter
import PyProof.FactsAll.set
import PyProof.SetNew
import PyProof.Rows.SortShell
import PyProof.Rows.SetFrom
import KE.KSortAsk
import KE.KSortTup
import PyProof.EnumMake
import PyProof.EnumFor
import PyProof.StrLawsTight
import PyProof.StrCalls2
import KE.KIntText
import PySem.Challenge.RW_tablefolk_k15_refused
theorem PySem.W.Fast.tw1677574689491602037:True:=trivial
theorem PySem.W.Fast.tw3418124228653791621:True:=trivial
theorem PySem.W.Fast.tw7670332386247227490:True:=trivial
theorem PySem.W.Fast.tw2686040939980918149:True:=trivial
theorem PySem.W.Fast.tw3877078147928781218:True:=trivial
theorem PySem.W.Fast.tw4490219648085282560:True:=trivial
theorem PySem.W.Fast.tw13815704668313795376:True:=trivial
theorem PySem.W.Fast.tw11535525886945716917:True:=trivial
theorem PySem.W.Fast.tw17099481086549084428:True:=trivial
theorem PySem.W.Fast.tw16239898247674271003:True:=trivial
theorem PySem.W.Fast.tw1469978143251496916:True:=trivial
theorem PySem.W.Fast.tw4496246412146857890:True:=trivial
theorem PySem.W.Fast.tw3282411239842277927:True:=trivial
theorem PySem.W.Fast.tw17675899647245186523:True:=trivial
theorem PySem.W.Fast.tw10443177379309044133:True:=trivial
theorem PySem.W.Fast.tw2267659748365579847:True:=trivial
theorem PySem.W.Fast.tw6345427183289522490:True:=trivial
theorem PySem.W.Fast.tw13306772391312608116:True:=trivial
theorem PySem.W.Fast.tw9650412951020651427:True:=trivial
theorem PySem.W.Fast.tw8448343558505412435:True:=trivial
theorem PySem.W.Fast.tw13929570098034122889:True:=trivial
theorem PySem.W.Fast.tw5743730505323618993:True:=trivial
theorem PySem.W.Fast.tw15169617562839996228:True:=trivial
theorem PySem.W.Fast.tw17188269965336961553:True:=trivial
theorem PySem.W.Fast.tw2733624632462501826:True:=trivial
theorem PySem.W.Fast.tw18225315853458329949:True:=trivial
theorem PySem.W.Fast.tw156183570533391323:True:=trivial
theorem PySem.W.Fast.tw1772153245210353654:True:=trivial
theorem PySem.W.Fast.tw5122848162426223160:True:=trivial
theorem PySem.W.Fast.tw15014622891624673577:True:=trivial
theorem PySem.W.Fast.tw10359870140031864463:True:=trivial
theorem PySem.W.Fast.tw9705674195914468229:True:=trivial
theorem PySem.W.Fast.tw9888535767206408117:True:=trivial
theorem PySem.W.Fast.tw5725332369663752147:True:=trivial
theorem PySem.W.Fast.tw726000457781056091:True:=trivial
theorem PySem.W.Fast.tw427211969227553790:True:=trivial
theorem PySem.W.Fast.tw11907065392922643931:True:=trivial
theorem PySem.W.Fast.tw4116219275923219358:True:=trivial
theorem PySem.W.Fast.tw9499758348489868632:True:=trivial
theorem PySem.W.Fast.tw6803280676147644019:True:=trivial
theorem PySem.W.Fast.tw312676288530633462:True:=trivial
theorem PySem.W.Fast.tw6442238448598567063:True:=trivial
theorem PySem.W.Fast.tw12969775695593909744:True:=trivial
theorem PySem.W.Fast.tw9936988837931448727:True:=trivial
theorem PySem.W.Fast.tw251937097485697848:True:=trivial
theorem PySem.W.Fast.tw7425862806959923593:True:=trivial
theorem PySem.W.Fast.tw3311818652357912167:True:=trivial
theorem PySem.W.Fast.tw14699098503029603204:True:=trivial
theorem PySem.W.Fast.tw9243091738858284135:True:=trivial
theorem PySem.W.Fast.tw6691787406580105875:True:=trivial
theorem PySem.W.Fast.tw1011185124614380893:True:=trivial
theorem PySem.W.Fast.tw2035352915503146220:True:=trivial
theorem PySem.W.Fast.tw8068637423400766839:True:=trivial
theorem PySem.W.Fast.tw9815531866465286360:True:=trivial
theorem PySem.W.Fast.tw14362063417771678583:True:=trivial
theorem PySem.W.Fast.tw3959395596517925923:True:=trivial
theorem PySem.W.Fast.tw454735485389197672:True:=trivial
theorem PySem.W.Fast.tw5050200678499063248:True:=trivial
theorem PySem.W.Fast.tw8148190342507729462:True:=trivial
theorem PySem.W.Fast.tw2076726136766816388:True:=trivial
theorem PySem.W.Fast.tw4050717405819300697:True:=trivial
theorem PySem.W.Fast.tw4291836856509167124:True:=trivial
theorem PySem.W.Fast.tw10509060950114540539:True:=trivial
theorem PySem.W.Fast.tw9495763339862636382:True:=trivial
theorem PySem.W.Fast.tw13787973487742985475:True:=trivial
theorem PySem.W.Fast.tw13148733263885552004:True:=trivial
theorem PySem.W.Fast.tw16281808798035497147:True:=trivial
theorem PySem.W.Fast.tw1280369923377641070:True:=trivial
theorem PySem.W.Fast.tw8577719147382624159:True:=trivial
theorem PySem.W.Fast.tw1313660498042799262:True:=trivial
theorem PySem.W.Fast.tw10557956870628096492:True:=trivial
theorem PySem.W.Fast.tw6138507450973853421:True:=trivial
theorem PySem.W.Fast.tw9997128079280045680:True:=trivial
theorem PySem.W.Fast.tw9069869138425185632:True:=trivial
theorem PySem.W.Fast.tw11039562745983105221:True:=trivial
theorem PySem.W.Fast.tw7165165632168882725:True:=trivial
theorem PySem.W.Fast.tw11501939849383948098:True:=trivial
theorem PySem.W.Fast.tw15850415530786464944:True:=trivial
theorem PySem.W.Fast.tw1110501800647675761:True:=trivial
theorem PySem.W.Fast.tw16988591749761795842:True:=trivial
theorem PySem.W.Fast.tw14550416395637327049:True:=trivial
theorem PySem.W.Fast.tw14809428953314173536:True:=trivial
theorem PySem.W.Fast.tw17177183149738730938:True:=trivial
theorem PySem.W.Fast.tw6795871640805658338:True:=trivial
theorem PySem.W.Fast.tw6498774737609755639:True:=trivial
theorem PySem.W.Fast.tw6887487829644798146:True:=trivial
theorem PySem.W.Fast.tw15594127052028954864:True:=trivial
theorem PySem.W.Fast.tw7928063972050471039:True:=trivial
theorem PySem.W.Fast.tw14332748596962678769:True:=trivial
theorem PySem.W.Fast.tw44568020462476378:True:=trivial
theorem PySem.W.Fast.tw10785670730365572164:True:=trivial
theorem PySem.W.Fast.tw17495521035578429464:True:=trivial
theorem PySem.W.Fast.tw16726113353296009573:True:=trivial
theorem PySem.W.Fast.tw9579144505599411784:True:=trivial
theorem PySem.W.Fast.tw18414411745118762332:True:=trivial
theorem PySem.W.Fast.tw4303286902996804868:True:=trivial
theorem PySem.W.Fast.tw10220188438728275390:True:=trivial
theorem PySem.W.Fast.tw6280032195095015098:True:=trivial
theorem PySem.W.Fast.tw14858907092830437925:True:=trivial
theorem PySem.W.Fast.tw2952461386117543240:True:=trivial
theorem PySem.W.Fast.tw9200403805869771393:True:=trivial
theorem PySem.W.Fast.tw11425093347270680946:True:=trivial
theorem PySem.W.Fast.tw11075110125028275893:True:=trivial
theorem PySem.W.Fast.tw11874408381900779767:True:=trivial
theorem PySem.W.Fast.tw17567115081529335555:True:=trivial
theorem PySem.W.Fast.tw3913943423654441343:True:=trivial
theorem PySem.W.Fast.tw15171616592705489809:True:=trivial
theorem PySem.W.Fast.tw11735040239966708936:True:=trivial
theorem PySem.W.Fast.tw13555581427888030208:True:=trivial
theorem PySem.W.Fast.tw12213075838420609330:True:=trivial
theorem PySem.W.Fast.tw13638647501528179554:True:=trivial
theorem PySem.W.Fast.tw14201393552789903269:True:=trivial
theorem PySem.W.Fast.tw10467389579994763940:True:=trivial
theorem PySem.W.Fast.tw8308989160568131231:True:=trivial
theorem PySem.W.Fast.tw10441242505773057864:True:=trivial
theorem PySem.W.Fast.tw5605661636381976400:True:=trivial
theorem PySem.W.Fast.tw10947892793475934046:True:=trivial
theorem PySem.W.Fast.tw7343914283061634254:True:=trivial
theorem PySem.W.Fast.tw17815461025917373466:True:=trivial
theorem PySem.W.Fast.tw10136976290960370090:True:=trivial
theorem PySem.W.Fast.tw5440742463036004593:True:=trivial
theorem PySem.W.Fast.tw7001735418488696094:True:=trivial
theorem PySem.W.Fast.tw11709741623754799402:True:=trivial
theorem PySem.W.Fast.tw7508849689301645023:True:=trivial
theorem PySem.W.Fast.tw15292373985195114479:True:=trivial
set_option linter.all false
set_option Elab.async false
set_option maxRecDepth 100000
set_option maxHeartbeats 4000000
open PySem PySem.Spec PyProof.Rows
open PySem.W (instObj methodObj hideAll hideAll_get of_hideAll hideAll_none Frag plainGet findIn emptyDict keepIn callWith_K cellsFrom_some fnOf codeIn codeRec_of OpenLaw WalkO nsIn excIn mg_of InstAt findObj mroIn looks_findIn clsIn kitOne exmOne)
abbrev J0:=List (List Int)
abbrev K0:=List Int
abbrev M0:=List (Addr×Obj)
abbrev N0:=Value->Shared->Prop
abbrev O0:=Str->Option Value
abbrev P0:=List Value
abbrev Q0:=List Str
abbrev R0:=List Addr
abbrev T0:=List Expr
def X0:=@PySem.wpAny_bind
def Y0:=@List.length_map
def B1:=@PySem.Heap.get?_push_of_some
def E1:=@List.getElem?_eq_getElem
def G1:=@PySem.wpAny_pure
def K1:=@List.getD_eq_getElem?_getD
def M1:=@List.mem_cons_of_mem
def N1:=@PySem.Heap.lt_size
def O1:=@Nat.le_refl
def P1:=@List.getElem?_eq_some_iff
def Q1:=@if_pos
def R1:=@List.size_toArray
def T1:=@List.mem_cons
def U1:=@List.mem_map
def V1:=@List.map_cons
def W1:=@List.mem_cons_self
def X1:=@List.mem_append_right
def Y1:=@Nat.lt_of_lt_of_le
def Z1:=@PySem.Heap.get?_push_size
def B2:=@if_neg
def D2:=@PySem.Heap.get?_update_other
def E2:=@List.mem_filter
def G2:=@List.mem_append
def J2:=@Nat.ne_of_lt
def K2:=@decide_eq_true
def N2:=@decide_eq_true_eq
def O2:=@decide_eq_false
def P2:=@List.length_set
def Q2:=@List.getElem?_set_ne
def T2:=@List.nodup_cons
def U2:=@List.length_append
def V2:=@List.mem_of_getElem?
def W2:=@List.getElem?_set_self
def X2:=@of_decide_eq_true
def Y2:=@List.mem_append_left
def Z2:=@Bool.and_eq_true
def i3:=@List.getElem?_map
def l3:=@Nat.lt_or_ge
def B3:=@Option.some.inj
def D3:=@List.map_append
def E3:=@Nat.le_trans
def G3:=@List.all_eq_true
def K3:=@PySem.wpAny_mono
def M3:=@PySem.sizeLine_eq
def N3:=@List.getElem_mem
def O3:=@PySem.wpAny_passesOwn
def Q3:=@of_decide_eq_false
def R3:=@List.lookup_cons
def U3:=@Ne.symm
def V3:=@Nat.zero_le
def W3:=@Int.toNat_natCast
def X3:=@PySem.wpAny_Call_Name_kw
def Y3:=@PySem.wpAny_holding
def Z3:=@List.pairwise_cons
def d4:=@List.mem_singleton
def i4:=@List.map_map
def j4:=@List.mem_range
def l4:=@PySem.mem_of_lookup
def m4:=@PySem.F.plainAttrs_list
def o4:=@Bool.false_eq_true
def B4:=@List.length_take
def D4:=@List.drop_eq_getElem_cons
def E4:=@PySem.wpAny_newObj_type
def G4:=@PySem.Heap.get?_update_self
def K4:=@Int.emod_lt_of_pos
def M4:=@List.take_length
def N4:=@PyProof.Rows.callWith_type1
def O4:=@Nat.lt_irrefl
def P4:=@List.take_add_one
def Q4:=@Array.getElem?_eq_some_iff
def R4:=@Array.length_toList
def T4:=@PySem.wpAny_loadPart'
def U4:=@Int.emod_nonneg
def V4:=@List.length_filter_le
def W4:=@List.length_cons
def X4:=@List.map_id'
def Y4:=@List.insertIdx_succ_cons
def Z4:=@List.Pairwise.imp_of_mem
def a5:=@PySem.wpAny_setField
def c5:=@PySem.Around.under_plainId
def d5:=@List.append_nil
def g5:=@beq_eq_false_iff_ne
def i5:=@PySem.Heap.SameBut.update
def j5:=@List.length_pos_of_mem
def l5:=@PySem.wpAny_field
def m5:=@Nat.le_succ
def o5:=@List.any_cons
def p5:=@congrArg
def t5:=@beq_iff_eq
def u5:=@PySem.Obj.data_mapFields
def v5:=@List.getElem?_eq_none
def B5:=@List.getElem?_append_left
def D5:=@Classical.byContradiction
def E5:=@PySem.codeAny_builtin
def G5:=@PySem.wpAny_truthy_bool
def K5:=@List.nodup_append
def L5:=@Function.comp_def
def M5:=@List.map_congr_left
def N5:=@List.filterMap_cons
def O5:=@PySem.wpAny_call_entry
def P5:=@List.getElem?_replicate
def Q5:=@PySem.wpAny_execs_nil
def R5:=@PyProof.Rows.get?_update_seq
def S5:=@List.find?_cons
def T5:=@PySem.Obj.isFreed_of_fields
def U5:=@List.length_singleton
def V5:=@List.pairwise_map
def W5:=@List.pairwise_append
def X5:=@PySem.Heap.size_push
def Y5:=@PySem.wpAny_askSetting
def Z5:=@PySem.codeAny_mono
def a6:=@Nat.ne_of_gt
def b6:=@List.filter_cons
def c6:=@List.drop_length
def d6:=@PySem.F.called_set
def e6:=@List.pairwise_iff_getElem
def g6:=@List.mem_or_eq_of_mem_set
def i6:=@Array.getElem?_eq_getElem
def j6:=@PySem.Calls.spliced_cons
def l6:=@List.length_eq_zero_iff
def m6:=@List.getElem?_cons_succ
def o6:=@PySem.wpAny_setState_of
def r6:=@if_false
def v6:=@Option.map_eq_some_iff
def w6:=@List.append_assoc
def x6:=@PyProof.Rows.slot_tuple_getitem
def y6:=@PySem.wpAny_execs_cons
def B6:=@PySem.wpAny_call
def D6:=@PyProof.Rows.callWith_builtin1
def E6:=@Option.getD_some
def G6:=@PySem.plainId_quiet
def K6:=@PyProof.Rows.listUpdate_at
def M6:=@if_true
def N6:=@List.map_take
def O6:=@List.all_cons
def P6:=@Int.ofNat_eq_natCast
def Q6:=@List.insertIdx_zero
def R6:=@List.getElem_of_mem
def T6:=@List.findSome?_cons
def U6:=@Nat.le_of_lt
def V6:=@List.map_nil
def W6:=@PySem.tupleKind_room_in1
def X6:=@List.getElem?_append_right
def Y6:=@List.findSome?_eq_none_iff
def Z6:=@Bool.false_ne_true
def a7:=@Bool.and_false
def b7:=@PySem.wpAny_pyIter_list
def c7:=@Nat.lt_succ_of_lt
def d7:=@PySem.Calls.spliced_nil
def f7:=@PySem.wpAny_newList
def i7:=@PySem.wpAny_attempt
def j7:=@PySem.F.slot_list_insert
def l7:=@Option.isSome_iff_exists
def m7:=@PySem.wpAny_callSpecial?_slot
def o7:=@Option.getD_none
def u7:=@List.not_mem_nil
def v7:=@List.getElem_inj
def B7:=@List.filter_cons_of_pos
def C7:=@List.ext_getElem
def D7:=@List.eraseIdx_cons_succ
def E7:=@PyProof.Rows.F.plain_set_update_loop
def G7:=@Bool.not_eq_true
def K7:=@PySem.wpAny_typeOf
def M7:=@dif_neg
def N7:=@PySem.call_meets
def O7:=@List.take_of_length_le
def P7:=@List.range_succ_eq_map
def Q7:=@List.pairwise_lt_range
def R7:=@List.all_map
def T7:=@PySem.F.slot_dict_get
def U7:=@List.take_eq_take_iff
def V7:=@List.singleton_append
def W7:=@List.length_replicate
def X7:=@Array.getElem?_toList
def Y7:=@PySem.codeAny_call_builtin
def Z7:=@List.getElem_toArray
def a8:=@PySem.F.slot_list_lt
def b8:=@PySem.Calls.evalArgs_plain
def c8:=@PySem.wpAny_setEntries_of
def d8:=@List.filter_eq_self
def f8:=@PySem.wpAny_standAt
def i8:=@Nat.not_lt
def j8:=@Nat.lt_of_le_of_lt
def k8:=@List.set_cons_zero
def l8:=@List.set_cons_succ
def o8:=@List.length_insertIdx_of_le_length
def p8:=@PySem.fits_of_scanBound
def q8:=@Nat.pow_succ
def r8:=@Nat.lt_trichotomy
def t8:=@List.length_range
def u8:=@List.flatten_cons
def v8:=@Bool.eq_false_iff
def w8:=@PySem.wpAny_eqBool_int
def x8:=@Option.bind_some
def y8:=@Nat.lt_succ_self
def A8:=@List.length_drop
def B8:=@List.any_eq_true
def C8:=@PySem.Heap.size_update
def D8:=@PyProof.Rows.seqEpoch_at
def E8:=@PySem.pushCells_keeps
def F8:=@PyProof.Rows.entry_list_sort
def G8:=@PySem.SeqAt.EqAt.same
def J8:=@List.of_mem_zip
def K8:=@List.length_nil
def L8:=@List.filter_map
def M8:=@dif_pos
def N8:=@PySem.wpAny_rule
def O8:=@PySem.wpAny_newTuple
def P8:=@PySem.wpAny_newFunctionEnv_cells
def Q8:=@PyProof.Rows.slot_list_sort
def R8:=@PySem.F.excBase_ValueError
def S8:=@List.perm_ext_iff_of_nodup
def T8:=@List.nodup_nil
def U8:=@List.length_eraseIdx_of_lt
def V8:=@List.drop_zero
def W8:=@PySem.Calls.Name_function_global
def X8:=@Array.perm_iff_toList_perm
def Y8:=@PySem.Calls.call_function_entry
def Z8:=@PySem.wpAny_comprehension_free
def a9:=@PySem.F.type_list_insert
def b9:=@PySem.F.type_list_append
def c9:=@PySem.F.slot_list_append
def f9:=@Bool.false_or
def i9:=@PySem.AutoSeq1.wpAny_loadPart'
def j9:=@PySem.F.slot_list_index
def k9:=@PySem.F.slot_list_count
def l9:=@PySem.F.args_dict_get_3
def m9:=@List.filter_cons_of_neg
def n9:=@Int.eq_ofNat_of_zero_le
def p9:=@PyProof.Rows.F.entry_set_update_loop
def r9:=@Classical.axiomOfChoice
def u9:=@PyProof.Rows.subscriptTail_builtinR
def v9:=@PySem.seqIndex_neg
def w9:=@PyProof.Rows.plain_sorted
def x9:=@PyProof.Rows.listItems_at
def y9:=@PyProof.Rows.entry_sorted
def A9:=@PySem.SeqAt.ne_of_list_tuple
def B9:=@PySem.F.entry_dict_get
def C9:=@Nat.zero_add
def D9:=@Nat.testBit_lt_two_pow
def E9:=@Nat.sub_zero
def F9:=@Nat.lt_trans
def G9:=@Nat.le_of_eq
def J9:=@List.map_set
def K9:=@List.filter_eq_nil_iff
def L9:=@List.drop_of_length_le
def M9:=@PySem.Calls.callWith_builtin
def N9:=@Array.getElem?_eq_none
def O9:=@PySem.wpAny_isTrue_Compare1
def P9:=@PySem.codeAny_call_function
def Q9:=@PySem.builtinLookup_eq_fast
def R9:=@PyProof.Rows.boot_set
def S9:=@PySem.seqIndex_of
def T9:=@or_false
def U9:=@PyProof.Rows.kind_sorted
def V9:=@PyProof.Rows.boot_sorted
def W9:=@Nat.pow_le_pow_right
def X9:=@List.length_eraseIdx
def Y9:=@PySem.F.excAttr_ValueError
def Z9:=@PySem.Around.frames_deeper
def Zaa:=@PySem.codeAny_forLoop_any
def Zab:=@List.replicate_succ
def Zac:=@Int.toNat_of_nonneg
def Zad:=@PySem.wpAny_Name
def Zae:=@PyProof.Rows.size_push'
def Zaf:=@PyProof.Rows.boot_range
def Zag:=@PySem.Walks.list
def Zah:=@PyProof.Rows.Subscript_
def Zai:=@PySem.SeqAt.EqAt.str_int
def Zaj:=@PySem.SeqAt.EqAt.int_str
def Zak:=@Option.isSome_some
def Zal:=@Nat.eq_zero_or_pos
def Zam:=@List.mem_filterMap
def Zan:=@List.filter_append
def Zao:=@Array.append_assoc
def Zap:=@PySem.wpAny_pyIter_slot
def Zaq:=@PySem.wpAny_pyIter_enum
def Zar:=@PySem.wpAny_assign_Name
def Zas:=@PySem.wpAny_Return_some
def Zat:=@PySem.slot_list_getitem
def Zau:=@bne_self_eq_false
def Zav:=@PySem.Value.isInt_shape
def Zaw:=@Option.isSome_map
def Zax:=@PySem.Obj.cls_mapFields
def Zay:=@List.getElem_take
def Zaz:=@List.flatMap_cons
def ZaA:=@List.Pairwise.map
def ZaB:=@PySem.F.plain_list_iadd
def ZaC:=@Bool.not_eq_true'
def ZaD:=@Array.toList_push
namespace L2
noncomputable abbrev Key:=Sum Int Str
noncomputable def Mo:Key->Value->Bool
 |.inl k,v=>Value.isInt k v
 |.inr x,v=>Value.isStrOf x v
noncomputable def HJ(w:World):Key->Int
 |.inl k=>hashInt k
 |.inr x=>hashStr w x
theorem rj:∀{k:Key} {v:Value},Mo k v=true->(∃i t,k=Sum.inl i/\v=Value.int i t)\/(∃x t,k=Sum.inr x/\v=Value.str x t)
 |.inl i,v,h=>by obtain⟨t,e⟩:=Zav (k:=i) (v:=v) h;exact .inl ⟨i,t,rfl,e⟩
 |.inr x,v,h=>by obtain⟨t,e⟩:=Value.isStrOf_shape (x:=x) (v:=v) h;exact .inr ⟨x,t,rfl,e⟩
theorem IJ(i:Int)(t:Tok):Mo (.inl i) (.int i t)=true:=by simp[Mo,Value.isInt]
theorem JJ(x:Str)(t:Tok):Mo (.inr x) (.str x t)=true:=by simp[Mo,Value.isStrOf]
theorem KJ(a b:Int):decide ((Sum.inl a:Key)=Sum.inl b)=(a==b):=by
 by_cases e:a=b
 .subst e;simp
 .have h:¬(Sum.inl a:Key)=Sum.inl b:=λq=>e (Sum.inl.inj q);rw[O2 h];exact(g5.mpr e).symm
theorem LJ(a b:Str):decide ((Sum.inr a:Key)=Sum.inr b)=decide (a=b):=by
 by_cases e:a=b
 .subst e;simp
 .have h:¬(Sum.inr a:Key)=Sum.inr b:=λq=>e (Sum.inr.inj q);rw[O2 h,O2 e]
theorem MJ(a:Int)(b:Str):decide ((Sum.inl a:Key)=Sum.inr b)=false:=O2 (λq=>nomatch q)
theorem NJ(a:Str)(b:Int):decide ((Sum.inr a:Key)=Sum.inl b)=false:=O2 (λq=>nomatch q)
noncomputable def sf(prog:Program)(w:World):PySem.KeyKind prog w Key where
 is:=Mo
 hash:=HJ w
 inj:=λv a b ha hb=>by
  rcases rj ha with⟨i,t,rfl,rfl⟩|⟨x,t,rfl,rfl⟩
  .rcases rj hb with⟨j,u,rfl,e⟩|⟨y,u,rfl,e⟩
   .injection e with e1 _;rw[e1]
   .exact nomatch e
  .rcases rj hb with⟨j,u,rfl,e⟩|⟨y,u,rfl,e⟩
   .exact nomatch e
   .injection e with e1 _;rw[e1]
 byValue:=λk v h=>by rcases rj h with⟨i,t,rfl,rfl⟩|⟨x,t,rfl,rfl⟩<;>rfl
 pyHash:=λhv h=>by
  rcases rj hv with⟨i,t,rfl,rfl⟩|⟨x,t,rfl,rfl⟩
  .exact wpAny_pyHash_int h
  .exact wpAny_pyHash_str h
 eqBool:=λhu hv h=>by
  rcases rj hu with⟨i,t,rfl,rfl⟩|⟨x,t,rfl,rfl⟩
  .rcases rj hv with⟨j,u,rfl,rfl⟩|⟨y,u,rfl,rfl⟩
   .rw[KJ]at h;exact w8 h
   .rw[MJ]at h;exact Zaj i t y u _ _ _ _ h
  .rcases rj hv with⟨j,u,rfl,rfl⟩|⟨y,u,rfl,rfl⟩
   .rw[NJ]at h;exact Zai x t j u _ _ _ _ h
   .rw[LJ]at h;exact wpAny_eqBool_str h
 «strs»:=λk x t v h=>by
  rcases rj h with⟨i,u,rfl,e⟩|⟨y,u,rfl,e⟩
  .exact nomatch e
  .injection e with e1 _;subst e1;cases v<;>rfl
theorem OJ(prog:Program)(w:World)(i:Int)(t:Tok):(sf prog w).is (.inl i) (.int i t)=true:=IJ i t
theorem PJ(prog:Program)(w:World)(x:Str)(t:Tok):(sf prog w).is (.inr x) (.str x t)=true:=JJ x t
inductive V where
 |non|bl (b:Bool)|int (i:Int)|str (x:Str)|Kx (b:Array UInt8)|flt (b:UInt64)|ref (a:Addr)|ty (n:String)
 deriving DecidableEq
abbrev _root_.U0:=List V
noncomputable def RelV:V->Value->Prop
 |.non,u=>u=Value.none
 |.bl b,u=>u=Value.bool b
 |.int i,u=>∃t,u=Value.int i t
 |.str x,u=>∃t,u=Value.str x t
 |.Kx b,u=>∃t,u=Value.bytes b t
 |.flt b,u=>∃t,u=Value.float b t
 |.ref a,u=>u=Value.ref a
 |.ty n,u=>u=Value.type n
noncomputable abbrev Vals:U0->P0->Prop:=Paired RelV
theorem Vals.length{xs:U0}{us:P0}(r:Vals xs us):xs.length=us.length:=Paired.length r
theorem Vals.get:∀{xs:U0} {us:P0} {i:Nat} {x:V},Vals xs us->xs[i]?=some x->∃u,us[i]?=some u/\RelV x u
 |_,_,_,_,.nil,e=>by simp at e
 |_,_,0,_,.cons r _,e=>by simp at e;subst e;exact⟨_,rfl,r⟩
 |_,_,i+1,x,.cons _ t,e=>by obtain⟨u,h1,h2⟩:=Vals.get (i:=i) (x:=x) t (by simpa using e);exact⟨u,by simpa using h1,h2⟩
theorem Vals.set{x:V}{u:Value}(r:RelV x u):∀{xs:U0} {us:P0} (i:Nat),Vals xs us->Vals (xs.set i x) (us.set i u)
 |_,_,_,.nil=>.nil
 |_,_,0,.cons _ t=>.cons r t
 |_,_,i+1,.cons q t=>.cons q (Vals.set r i t)
theorem Vals.append:∀{xs ys:U0} {us ws:P0},Vals xs us->Vals ys ws->Vals (xs++ys) (us++ws)
 |_,_,_,_,.nil,s=>s
 |_,_,_,_,.cons r t,s=>.cons r (Vals.append t s)
theorem Vals.take:∀{xs:U0} {us:P0} (n:Nat),Vals xs us->Vals (xs.take n) (us.take n)
 |_,_,0,_=>.nil
 |_,_,_+1,.nil=>.nil
 |_,_,n+1,.cons r t=>.cons r (Vals.take n t)
theorem Vals.drop:∀{xs:U0} {us:P0} (n:Nat),Vals xs us->Vals (xs.drop n) (us.drop n)
 |_,_,0,r=>r
 |_,_,_+1,.nil=>.nil
 |_,_,n+1,.cons _ t=>Vals.drop n t
noncomputable def ui:Option V->Option Value->Prop
 |some v,some u=>RelV v u
 |none,none=>True
 |_,_=>False
noncomputable def KV{κ:Type}:List (κ×V)->List (κ×Value)->Prop:=Paired λ(p:κ×V) (q:κ×Value)=>p.1=q.1/\RelV p.2 q.2
noncomputable def kV:Key->V
 |.inl i=>.int i
 |.inr x=>.str x
inductive HO where
 |lst (xs:U0)
 |tup (xs:U0)
 |dK (kvs:List (Key×V))|dT (kvs:List (List Key×V))
 |set (S:Int->Bool) (n:Nat)
 |ins (C dx:Addr) (fs:List (Str×V))
 |own (x:Addr)
 |xd (fs:List (Str×V))
 |met (f x:Addr)
 |rng (lo hi:Int)
 |Tc (o:Obj) (u:HO)
 |Ml (ps:Array Value)
 |ext (φ:Heap->Prop)
noncomputable abbrev Hp:=Addr->Option HO
noncomputable def upd(H:Hp)(a:Addr)(o:HO):Hp:=λb=>if b=a then some o else H b
theorem Lb{H:Hp}{a:Addr}{o:HO}:upd H a o a=some o:=by unfold upd;rw[Q1 rfl]
theorem rb{H:Hp}{a b:Addr}{o:HO}(h:b≠a):upd H a o b=H b:=by unfold upd;rw[B2 h]
theorem QJ{H:Hp}{a b:Addr}{o u:HO}(h:H a=some o)(h':H b=some u)(d:o≠u):a≠b:=by intro e;subst e;rw[h]at h';exact d (B3 h')
theorem Vc{H:Hp}{a b:Addr}{o:HO}(h:H a=some o)(h':H b=none):a≠b:=by intro e;subst e;rw[h]at h';cases h'
section
variable(P:Program)(w:World)
noncomputable def de(H:Hp)(h:Heap)(a:Addr):HO->Prop
 |.lst xs=>xs.length<=sizeLine/\∃(its:P0) (n:Nat),Vals xs its/\h.get? a=some { cls:=.type "list",data:=.seq its.toArray n }
 |.tup xs=>xs.length<=sizeLine/\∃its:P0,Vals xs its/\IsTup h a its.toArray
 |.dK kvs=>kvs.length<=sizeLine/\(a==sysModules)=false/\∃vs,KV kvs vs/\h.DictOf (sf P w) a vs
 |.dT kvs=>kvs.length<=sizeLine/\(a==sysModules)=false/\∃xs:List (List Key×Addr×Value),
   Paired (λ(p:List Key×V) (q:List Key×Addr×Value)=>p.1=q.1/\H q.2.1=some (.tup (p.1.map kV))/\RelV p.2 q.2.2) kvs xs/\
   ∃o es ep,h.get? a=some o/\o.ExactDict/\o.data=.dict es ep/\es.toList=xs.map (entryOfKey (tupleKind (sf P w)))/\(xs.map (·.1)).Nodup
 |.set S n=>h.SetOf (intKind P w) a S n
 |.ins C dx fs=>H dx=some (.own a)/\fs.length<=1000/\dx≠a/\h.get? a=some (instObj C dx)/\
   ∃mA,h.Ns1 dx mA/\(∀f,ui (fs.lookup f) (mA f))/\PySem.Within mA (fs.map (·.1))
 |.own _=>∃o,h.get? a=some o
 |.xd fs=>∃mA,h.Ns1 a mA/\∀f,ui (fs.lookup f) (mA f)
 |.rng lo hi=>∃t u v,h.get? a=some { cls:=.type "range",data:=.fields #[.int lo t,.int hi u,.int 1 v] }
 |.Tc o u=>h.get? a=some o/\de H h a u
 |.Ml ps=>h.get? a=some { cls:=.none,data:=.fields ps }
 |.met f x=>h.get? a=some (methodObj (.ref f) (.ref x))
 |.ext φ=>φ h/\(∃o,h.get? a=some o)/\∀h1 h2:Heap,φ h1->(∀o,h1.get? a=some o->h2.get? a=some o)->φ h2
noncomputable def Dd(H:Hp)(h:Heap):Prop:=∀a o,H a=some o->de P w H h a o
end
section
variable{P:Program}{w:World}{H H':Hp}{h h':Heap}{a:Addr}{o:HO}
theorem de.lt(x:de P w H h a o):a<h.objs.size:=by
 cases o with
 |lst xs=>obtain⟨_,_,_,_,e⟩:=x;exact N1 e
 |tup xs=>obtain⟨_,_,_,p⟩:=x;exact p.lt
 |dK kvs=>obtain⟨_,_,_,_,o,_,_,e,_⟩:=x;exact N1 e
 |dT kvs=>obtain⟨_,_,_,_,o,_,_,e,_⟩:=x;exact N1 e
 |set S n=>obtain⟨o,_,_,_,e,_⟩:=x;exact N1 e
 |ins C dx fs=>obtain⟨_,_,_,e,_⟩:=x;exact N1 e
 |own y=>obtain⟨_,e⟩:=x;exact N1 e
 |xd fs=>obtain⟨_,⟨_,_,_,e,_⟩,_⟩:=x;exact N1 e
 |rng lo hi=>obtain⟨_,_,_,e⟩:=x;exact N1 e
 |Tc ob u=>obtain⟨e,_⟩:=x;exact N1 e
 |Ml ps=>exact N1 (show h.get? a=some _ from x)
 |met f y=>exact N1 (show h.get? a=some _ from x)
 |ext φ=>obtain⟨_,⟨_,e⟩,_⟩:=x;exact N1 e
theorem Paired.Mx{α β:Type}{F G:α->β->Prop}:∀{l₁:List α} {l₂:List β},Paired F l₁ l₂->(∀a b,F a b->G a b)->Paired G l₁ l₂
 |_,_,.nil,_=>.nil
 |_,_,.cons r t,f=>.cons (f _ _ r) (Paired.Mx t f)
theorem de.stay(x:de P w H h a o)(k:∀b u,(b=a\/H b=some (.own a))->h.get? b=some u->h'.get? b=some u)(ho:∀b,H b=some (.own a)->H' b=some (.own a))(ht:∀b xs,H b=some (.tup xs)->H' b=some (.tup xs)):de P w H' h' a o:=by
 induction o with
 |lst xs=>obtain⟨z,its,n,r,e⟩:=x;exact⟨z,its,n,r,k _ _ (.inl rfl) e⟩
 |tup xs=>obtain⟨z,its,r,ob,e,c⟩:=x;exact⟨z,its,r,ob,k _ _ (.inl rfl) e,c⟩
 |dK kvs=>obtain⟨z,y,vs,r,ob,es,ep,e,c⟩:=x;exact⟨z,y,vs,r,ob,es,ep,k _ _ (.inl rfl) e,c⟩
 |dT kvs=>obtain⟨z,y,xs,r,ob,es,ep,e,c⟩:=x;exact⟨z,y,xs,Paired.Mx r λp q z=>⟨z.1,ht _ _ z.2.1,z.2.2⟩,ob,es,ep,k _ _ (.inl rfl) e,c⟩
 |set S n=>obtain⟨ob,es,ep,t,e,c⟩:=x;exact⟨ob,es,ep,t,k _ _ (.inl rfl) e,c⟩
 |ins C dx fs=>obtain⟨d,z,ne,e,mA,⟨od,es,ep,e2,c⟩,r⟩:=x;exact⟨ho _ d,z,ne,k _ _ (.inl rfl) e,mA,⟨od,es,ep,k _ _ (.inr d) e2,c⟩,r⟩
 |own y=>obtain⟨ob,e⟩:=x;exact⟨ob,k _ _ (.inl rfl) e⟩
 |xd fs=>obtain⟨mA,⟨od,es,ep,e,c⟩,r⟩:=x;exact⟨mA,⟨od,es,ep,k _ _ (.inl rfl) e,c⟩,r⟩
 |rng lo hi=>obtain⟨t,u,v,e⟩:=x;exact⟨t,u,v,k _ _ (.inl rfl) e⟩
 |Tc ob u ih=>obtain⟨e,q⟩:=x;exact⟨k _ _ (.inl rfl) e,ih q⟩
 |Ml ps=>have e:h.get? a=some { cls:=.none,data:=.fields ps }:=x;show h'.get? a=some { cls:=.none,data:=.fields ps };exact k a _ (.inl rfl) e
 |met f y=>have e:h.get? a=some (methodObj (.ref f) (.ref y)):=x;show h'.get? a=some (methodObj (.ref f) (.ref y));exact k a _ (.inl rfl) e
 |ext φ=>obtain⟨p,⟨o,e⟩,st⟩:=x;exact⟨st _ _ p λo q=>k _ _ (.inl rfl) q,⟨o,k _ _ (.inl rfl) e⟩,st⟩
theorem Dd.lt(x:Dd P w H h)(e:H a=some o):a<h.objs.size:=(x a o e).lt
theorem Dd.fresh(x:Dd P w H h)(e:h.objs.size<=a):H a=none:=by
 cases q:H a with
 |none=>rfl
 |some u=>exact absurd (Y1 (x.lt q) e) (O4 _)
theorem Dd.kept(x:Dd P w H h)(k:∀b u,h.get? b=some u->h'.get? b=some u):Dd P w H h':=λa o e=>
 (x a o e).stay (λb u _ q=>k b u q) (λ_ q=>q) λ_ _ q=>q
theorem Dd.laid(x:Dd P w H h)(k:∀b u,h.get? b=some u->h'.get? b=some u)(hp:h.objs.size<=a)(new:de P w (upd H a o) h' a o):Dd P w (upd H a o) h':=λb u e=>by
 have hn:=x.fresh hp;by_cases hb:b=a
 .subst hb;rw[Lb]at e;cases e;exact new
 .rw[rb hb]at e;exact(x b u e).stay (λc v _ q=>k c v q) (λc q=>by rw[rb (Vc q hn)];exact q) λc xs q=>by rw[rb (Vc q hn)];exact q
end
noncomputable def Rd(H:Hp)(a:Addr)(u:HO):Prop:=H a=some u\/∃o,H a=some (.Tc o u)
theorem Rd.of{H:Hp}{a:Addr}{u:HO}(h:H a=some u):Rd H a u:=.inl h
theorem Rd.ok{P:Program}{w:World}{H:Hp}{h:Heap}{a:Addr}{u:HO}(r:Rd H a u)(x:Dd P w H h):de P w H h a u:=by
 rcases r with r|⟨o,r⟩
 .exact x a u r
 .obtain⟨_,q⟩:=x a _ r;exact q
noncomputable def Qq:Option HO->Prop
 |some (.lst _)=>True
 |some (.dK _)=>True
 |some (.dT _)=>True
 |some (.set _ _)=>True
 |some (.ins _ _ _)=>True
 |some (.ext _)=>True
 |_=>False
section
variable{P:Program}{w:World}{H:Hp}{h h':Heap}{x e:Addr}{o':HO}
theorem Dd.write(ok:Dd P w H h)(mu:Qq (H x))(he:e=x\/H e=some (.own x))(k:∀b u,b≠e->h.get? b=some u->h'.get? b=some u)(Hq:∃u,h'.get? e=some u)(new:de P w (upd H x o') h' x o'):Dd P w (upd H x o') h':=λb u q=>by
 have PB:∀c y,H c=some (.own y)->c≠x:=λc y r z=>by subst z;rw[r]at mu;exact mu
 have RJ:∀c xs,H c=some (.tup xs)->c≠x:=λc xs r z=>by subst z;rw[r]at mu;exact mu
 by_cases hb:b=x
 .subst hb;rw[Lb]at q;cases q;exact new
 .rw[rb hb]at q;by_cases ak:b=e
  .have q':H b=some (.own x):=by
    rcases he with z|z
    .exact absurd (ak.trans z) hb
    .rw[ak];exact z
   rw[q]at q';cases q';obtain⟨v,hv⟩:=Hq;exact⟨v,by rw[ak];exact hv⟩
  .refine(ok b u q).stay (λc v hc r=>k c v ?_ r) (λc r=>by rw[rb (PB c b r)];exact r) λc xs r=>by rw[rb (RJ c xs r)];exact r
   rcases hc with rfl|hc
   .exact ak
   .rintro rfl;rcases he with z|z
    .exact PB c b hc z
    .rw[hc]at z;cases z;exact hb rfl
end
structure Un(fs ex:R0)(H H':Hp)(h h':Heap):Prop where
 keep:∀b o,h.get? b=some o->H b=none->b∉fs->b∉ex->h'.get? b=some o
 slot:∀b o,h.get? b=some o->H b=none->b∈fs->b∉ex->∃sl,h'.get? b=some { o with slots:=sl }
 free:∀b o,h.get? b=some o->H b=none->b∉ex->H' b=none
 there:∀b o,h.get? b=some o->b∉ex->∃o',h'.get? b=some o'
 tups:∀b xs,H b=some (.tup xs)->H' b=some (.tup xs)
 Tf:∀b o u,H b=some (.Tc o u)->H' b=some (.Tc o u)
 og:∀b ps,H b=some (.Ml ps)->∃more,H' b=some (.Ml (ps++more))
section
variable{fs fs' ex ex':R0}{H H1 H2:Hp}{h h1 h2 h':Heap}{a x e:Addr}{o:HO}
theorem Un.any(u:Un fs ex H H1 h h1){b:Addr}{ob:Obj}(q:h.get? b=some ob)(n:H b=none)(hx:b∉ex):∃sl,h1.get? b=some { ob with slots:=sl }:=by
 by_cases hb:b∈fs
 .exact u.slot b ob q n hb hx
 .exact⟨ob.slots,u.keep b ob q n hb hx⟩
theorem Un.trans(a:Un fs ex H H1 h h1)(b:Un fs ex H1 H2 h1 h2):Un fs ex H H2 h h2 where
 keep:=λc ob q n hc hx=>b.keep c ob (a.keep c ob q n hc hx) (a.free c ob q n hx) hc hx
 slot:=λc ob q n hc hx=>by obtain⟨sl,e1⟩:=a.slot c ob q n hc hx;obtain⟨sl',e2⟩:=b.slot c _ e1 (a.free c ob q n hx) hc hx;exact⟨sl',e2⟩
 free:=λc ob q n hx=>by obtain⟨o',e1⟩:=a.there c ob q hx;exact b.free c o' e1 (a.free c ob q n hx) hx
 there:=λc ob q hx=>by obtain⟨o',e1⟩:=a.there c ob q hx;exact b.there c o' e1 hx
 tups:=λc xs q=>b.tups c xs (a.tups c xs q)
 Tf:=λc ob xs q=>b.Tf c ob xs (a.Tf c ob xs q)
 og:=λc ps q=>by obtain⟨m1,e1⟩:=a.og c ps q;obtain⟨m2,e2⟩:=b.og c _ e1;exact⟨m1++m2,by rw[e2,Zao]⟩
theorem Un.kept(k:∀b u,h.get? b=some u->h'.get? b=some u):Un fs ex H H h h':=
 ⟨λb ob q _ _ _=>k b ob q,λb ob q _ _ _=>⟨ob.slots,k b ob q⟩,λ_ _ _ n _=>n,λb ob q _=>⟨ob,k b ob q⟩,λ_ _ q=>q,λ_ _ _ q=>q,λ_ ps q=>⟨#[],by rw[q];simp⟩⟩
theorem Un.refl:Un fs ex H H h h:=Un.kept λ_ _ q=>q
theorem Un.laid(k:∀b u,h.get? b=some u->h'.get? b=some u)(hp:h.objs.size<=a)(hn:H a=none):Un fs ex H (upd H a o) h h' where
 keep:=λb u q _ _ _=>k b u q
 slot:=λb u q _ _ _=>⟨u.slots,k b u q⟩
 free:=λb u q n _=>by rw[rb (J2 (Y1 (N1 q) hp))];exact n
 there:=λb u q _=>⟨u,k b u q⟩
 tups:=λb xs q=>by rw[rb (Vc q hn)];exact q
 Tf:=λb u xs q=>by rw[rb (Vc q hn)];exact q
 og:=λb ps q=>⟨#[],by rw[rb (Vc q hn),q];simp⟩
theorem Un.write(mu:Qq (H x))(he:e=x\/H e=some (.own x))(k:∀b u,b≠e->h.get? b=some u->h'.get? b=some u)(Hq:∃u,h'.get? e=some u):Un fs ex H (upd H x o) h h':=by
 have hx:∀b,H b=none->b≠x:=λb n z=>by subst z;rw[n]at mu;exact mu
 have hb:∀b,H b=none->b≠e:=λb n z=>by
  subst z;rcases he with r|r
  .exact hx b n r
  .rw[n]at r;cases r
 have hm:∀b u,H b=some u->¬Qq (some u)->b≠x:=λb u q nm z=>by subst z;rw[q]at mu;exact nm mu
 refine⟨λb u q n _ _=>k b u (hb b n) q,λb u q n _ _=>⟨u.slots,k b u (hb b n) q⟩,λb u q n _=>by rw[rb (hx b n)];exact n,λb u q _=>?_,
  λb xs q=>by rw[rb (hm b _ q λz=>z)];exact q,λb u xs q=>by rw[rb (hm b _ q λz=>z)];exact q,λb ps q=>⟨#[],by rw[rb (hm b _ q λz=>z),q];simp⟩⟩
 by_cases ak:b=e
 .subst ak;exact Hq
 .exact⟨u,k b u ak q⟩
theorem Un.mono(u:Un fs ex H H1 h h1)(hs:∀b∈fs,b∈fs')(hx:∀b∈ex,b∈ex'):Un fs' ex' H H1 h h1:=
 ⟨λb ob q n hb he=>u.keep b ob q n (λz=>hb (hs b z)) λz=>he (hx b z),λ_ _ q n _ he=>u.any q n λz=>he (hx _ z),λb ob q n he=>u.free b ob q n λz=>he (hx b z),λb ob q he=>u.there b ob q λz=>he (hx b z),u.tups,u.Tf,u.og⟩
end
noncomputable def iu(h:Heap)(H:Hp):R0:=(List.range h.objs.size).filter λa=>(H a).isSome
noncomputable def uk(h:Heap)(H:Hp):Heap:=hideAll h (iu h H)
theorem SJ(h:Heap)(H:Hp):(uk h H).objs.size=h.objs.size:=PySem.W.hideAll_size _ _
theorem TJ{h:Heap}{H:Hp}{b:Addr}{o:Obj}(e:h.get? b=some o)(n:H b=none):(uk h H).get? b=some o:=
 hideAll_get _ e λhm=>by have q:(H b).isSome=true:=(E2.mp hm).2;rw[n]at q;simp at q
theorem UJ{h:Heap}{H:Hp}{b:Addr}{o:Obj}(e:(uk h H).get? b=some o):h.get? b=some o/\H b=none:=by
 have e':h.get? b=some o:=of_hideAll (iu h H) e;refine⟨e',?_⟩;cases q:H b with
 |none=>rfl
 |some x=>have hm:b∈iu h H:=E2.mpr ⟨j4.mpr (N1 e'),by simp[q]⟩;have z:(uk h H).get? b=none:=hideAll_none (iu h H) hm;rw[z]at e;cases e
noncomputable def VJ(g h:Heap)(L:Addr):M0:=(List.range h.objs.size).filterMap λa=>if a=L\/(g.get? a).isSome=true then none else(h.get? a).map λo=>(a,o)
noncomputable def rest(g h:Heap)(L d:Addr):M0:=(VJ g h L).filter λp=>decide (p.1≠d)
structure Mod(K:Frag)(mg:O0)(base:Heap):Prop where
 sj:K.In base
 glob:base.Ns mainGlobals mg
 blt:∃mb,base.Ns builtinsNs mb/\∀x:Str,x≠"__name__"->mb x=bootBuiltins x
 nolimit:base.NoLimit
structure Cx where
 prog:Program
 w:World
 K:Frag
 mg:O0
 base:Heap
 A:Around
 N:Q0
 s₀:Shared
 H₀:Hp
 env:Env
 outer:List Env
 stack:List Env
 ex:R0
 fn:Str->Bool
 calm:Bool
 pn:M0
 xe:N0
noncomputable def frs(l:List Env):R0:=l.filterMap (·.frame)
noncomputable abbrev Cx.fs(X:Cx):R0:=frs X.outer
noncomputable def ju(sc:Scope)(x:Str):Prop:=sc.names.lookup x=some .local\/sc.names.lookup x=some .cell\/sc.names.lookup x=some .free
noncomputable def Loc(sc:Scope)(x:Str):Prop:=sc.names.lookup x=some .local\/sc.names.lookup x=some .cell
noncomputable def Look(env:Env)(h:Heap)(m:O0)(x:Str)(u:Value):Prop:=
 (env.kindOf x=some .local/\m x=some u)\/((env.kindOf x=some .cell\/env.kindOf x=some .free)/\∃c,env.cells.lookup x=some c/\h.IsCell c (some u))
structure Cx.Ok(X:Cx):Prop where
 mod:Mod X.K X.mg X.base
 kind:X.env.scope.kind=.function
 glob:X.env.globals=mainGlobals
 blt:X.env.builtins=builtinsNs
 above:X.s₀.heap.objs.size<=X.env.locals
 inj:∀x y c,X.env.cells.lookup x=some c->X.env.cells.lookup y=some c->x=y
 has:∀x,(X.env.kindOf x=some .cell\/X.env.kindOf x=some .free)->∃c,X.env.cells.lookup x=some c
 cab:∀x c,X.fn x=true->X.env.cells.lookup x=some c->X.s₀.heap.objs.size<=c
 hd:X.calm=true->X.A.handled=none
 frames:X.A.frames=some X.stack
 stk:X.stack=X.outer\/(X.stack=X.env::X.outer/\X.env.frame=some X.env.locals)
 No:∀b∈X.ex,b≠X.env.locals/\∀x c,X.env.cells.lookup x=some c->c≠b
 bs:∀b o,X.base.get? b=some o->X.s₀.heap.get? b=some o/\X.H₀ b=none
 ph:X.base.objs.size<=X.s₀.heap.objs.size
 Nl:∀b o,X.base.get? b=some o->b∉X.ex
 Wm:∀b∈X.ex,b∉X.fs
 qg:X.s₀.heap.FunFrames X.base X.outer
 Qi:∀b∈X.fs,X.H₀ b=none
structure Inv(X:Cx)(pins:M0)(σ:List (Option V))(H:Hp)(s:Shared):Prop where
 ok:X.Ok
 os:s.os=X.s₀.os
 bare:AllBare s.gens
 base:Un X.fs X.ex X.H₀ H X.s₀.heap s.heap
 loc:∃m,s.heap.Ns X.env.locals m/\∀(i:Nat) (x:Str) (v:V),X.N[i]?=some x->σ[i]?=some (some v)->ju X.env.scope x->∃u,RelV v u/\Look X.env s.heap m x u
 cell:∀x c,X.env.cells.lookup x=some c->∃v,s.heap.IsCell c v
 free:H X.env.locals=none
 Uf:∀x c,X.env.cells.lookup x=some c->H c=none
 pin:∀p∈X.pn++pins,s.heap.get? p.1=some p.2/\H p.1=none/\p.1≠X.env.locals/\p.1∉X.fs/\∀v,p.2.data≠.cell v
 Va:Dd X.prog X.w H s.heap
 len:σ.length=X.N.length
section
variable{X:Cx}{pins:M0}{σ:List (Option V)}{H H':Hp}{s:Shared}{h':Heap}
theorem Cx.Ok.WJ(ok:X.Ok){b:Addr}{o:Obj}(e:X.base.get? b=some o):b∉X.fs:=λhb=>by have:=(ok.qg.mem hb).1;rw[e]at this;cases this
theorem Inv.bs(I:Inv X pins σ H s):∀b o,X.base.get? b=some o->s.heap.get? b=some o/\H b=none:=λb o e=>
 ⟨I.base.keep b o (I.ok.bs b o e).1 (I.ok.bs b o e).2 (I.ok.WJ e) (I.ok.Nl b o e),I.base.free b o (I.ok.bs b o e).1 (I.ok.bs b o e).2 (I.ok.Nl b o e)⟩
theorem Inv.bk(I:Inv X pins σ H s):∀b o,X.base.get? b=some o->s.heap.get? b=some o:=λb o e=>(I.bs b o e).1
theorem Inv.mod(I:Inv X pins σ H s):Mod X.K X.mg X.base:=I.ok.mod
theorem Inv.Jg(I:Inv X pins σ H s):X.K.In s.heap:=I.ok.mod.sj.keeps I.bk
theorem Inv.nolimit(I:Inv X pins σ H s):s.heap.NoLimit:=I.ok.mod.nolimit.keeps I.bk
theorem Inv.fr(I:Inv X pins σ H s):∃m,Fr X.base X.env.locals s.heap m:=
 let ⟨m,hn,_⟩:=I.loc
 ⟨m,hn,I.bk,E3 I.ok.ph I.ok.above⟩
theorem Inv.lt(I:Inv X pins σ H s):X.env.locals<s.heap.objs.size:=let ⟨_,hn,_⟩:=I.loc;hn.lt
theorem Inv.sz(I:Inv X pins σ H s):X.s₀.heap.objs.size<=s.heap.objs.size:=E3 I.ok.above (U6 I.lt)
theorem Inv.ku(I:Inv X pins σ H s){a:Addr}(h:s.heap.objs.size<=a):a∉X.fs:=λhb=>by obtain⟨_,o,ho,_⟩:=I.ok.qg.mem hb;exact absurd (Y1 (N1 ho) (E3 I.sz h)) (O4 _)
theorem Inv.Ol(I:Inv X pins σ H s):∀x c,X.env.cells.lookup x=some c->c≠X.env.locals:=λx c e z=>by obtain⟨v,o,ho,hd⟩:=I.cell x c e;obtain⟨m,⟨o',es,ep,Ao,Hf,_⟩,_⟩:=I.loc;rw[z,Ao]at ho;cases ho;rw[Hf]at hd;cases hd
theorem Inv.qg(I:Inv X pins σ H s):s.heap.FunFrames X.base X.outer:=by
 have all:∀(l:List Env),(∀b∈frs l,b∈X.fs)->X.s₀.heap.FunFrames X.base l->s.heap.FunFrames X.base l:=by
  intro l;induction l with
  |nil=>intro _ _;trivial
  |cons env r ih=>intro hs hl;obtain⟨hk,⟨L,o,hf,hn,ho,hd⟩,hr⟩:=hl;have hL:L∈X.fs:=hs L (by unfold frs;rw[N5,hf];exact W1);obtain⟨sl,e⟩:=I.base.slot L o ho (I.ok.Qi L hL) hL λz=>I.ok.Wm L z hL;exact⟨hk,⟨L,_,hf,hn,e,hd⟩,ih (λb hb=>hs b (by unfold frs;rw[N5,hf];exact M1 _ hb)) hr⟩
 exact all X.outer (λ_ hb=>hb) I.ok.qg
theorem Inv.stack(I:Inv X pins σ H s):s.heap.FunFrames X.base X.stack:=by
 rcases I.ok.stk with e|⟨e,hf⟩
 .rw[e];exact I.qg
 .rw[e];obtain⟨m,hn,_⟩:=I.loc;refine .cons (by rw[I.ok.kind];decide) hf hn ?_ I.qg;exact Heap.get?_none_of_le (E3 I.ok.ph I.ok.above)
theorem Inv.Oo(I:Inv X pins σ H s):∀b∈frs X.stack,b∈X.env.locals::X.fs:=λb hb=>by
 rcases I.ok.stk with e|⟨e,hf⟩
 .rw[e]at hb;exact M1 _ hb
 .rw[e]at hb;unfold frs at hb;rw[N5,hf]at hb;exact hb
theorem Inv.Nx(I:Inv X pins σ H s):∀b∈frs X.stack,H b=none:=λb hb=>by
 rcases T1.mp (I.Oo b hb)with e|hb
 .rw[e];exact I.free
 .obtain⟨_,o,ho,_⟩:=I.ok.qg.mem hb;exact I.base.free b o ho (I.ok.Qi b hb) λz=>I.ok.Wm b z hb
theorem Inv.step{g':Array GenState}{t':Nat}{d':Drawn}{ch:R0}(I:Inv X pins σ H s)(dk:∀b∈ch,(b∈X.ex\/X.s₀.heap.objs.size<=b)/\b≠X.env.locals/\(∀x c,X.env.cells.lookup x=some c->c≠b)/\∀p∈X.pn++pins,p.1≠b)(keep:∀b o,b≠X.env.locals->b∉X.fs->b∉ch->s.heap.get? b=some o->H b=none->h'.get? b=some o)(slot:∀b o,b≠X.env.locals->b∈X.fs->b∉ch->s.heap.get? b=some o->H b=none->∃sl,h'.get? b=some { o with slots:=sl })(free:∀b o,b∉ch->s.heap.get? b=some o->H b=none->H' b=none)(there:∀b o,b∉ch->s.heap.get? b=some o->∃o',h'.get? b=some o')(tups:∀b xs,H b=some (.tup xs)->H' b=some (.tup xs))(Tf:∀b o u,H b=some (.Tc o u)->H' b=some (.Tc o u))(og:∀b ps,H b=some (.Ml ps)->∃more,H' b=some (.Ml (ps++more)))(ns:∀m,s.heap.Ns X.env.locals m->h'.Ns X.env.locals m)(Va:Dd X.prog X.w H' h')(hg:AllBare g'):Inv X pins σ H' { s with heap:=h',gens:=g',drawn:=d',toks:=t' }:=by
 have Rh:∀b o,X.s₀.heap.get? b=some o->b≠X.env.locals:=λb o e=>J2 (Y1 (N1 e) I.ok.above);have lu:∀b o,X.s₀.heap.get? b=some o->b∉X.ex->b∉ch:=λb o e hx hb=>by
  rcases(dk b hb).1 with z|z
  .exact hx z
  .exact absurd (Y1 (N1 e) z) (O4 _)
 have cellK:∀x c,X.env.cells.lookup x=some c->∀v,s.heap.IsCell c v->h'.IsCell c v:=λx c e v ⟨o,ho,hd⟩=>by
  have Rq:c∉ch:=λz=>(dk c z).2.2.1 x c e rfl;by_cases hc:c∈X.fs
  .obtain⟨sl,q⟩:=slot c o (I.Ol x c e) hc Rq ho (I.Uf x c e);exact⟨_,q,hd⟩
  .exact⟨o,keep c o (I.Ol x c e) hc Rq ho (I.Uf x c e),hd⟩
 refine⟨I.ok,I.os,hg,⟨λb o e n hb hx=>?_,λb o e n hb hx=>?_,λb o e n hx=>?_,λb o e hx=>?_,λb xs e=>tups b xs (I.base.tups b xs e),λb o xs e=>Tf b o xs (I.base.Tf b o xs e),λb ps e=>?_⟩,?_,λx c e=>?_,?_,λx c e=>?_,λp hp=>?_,Va,I.len⟩
 .exact keep b o (Rh b o e) hb (lu b o e hx) (I.base.keep b o e n hb hx) (I.base.free b o e n hx)
 .obtain⟨sl,e1⟩:=I.base.slot b o e n hb hx;obtain⟨sl',e2⟩:=slot b _ (Rh b o e) hb (lu b o e hx) e1 (I.base.free b o e n hx);exact⟨sl',e2⟩
 .obtain⟨o',e1⟩:=I.base.there b o e hx;exact free b o' (lu b o e hx) e1 (I.base.free b o e n hx)
 .obtain⟨o',e1⟩:=I.base.there b o e hx;exact there b o' (lu b o e hx) e1
 .obtain⟨m1,e1⟩:=I.base.og b ps e;obtain⟨m2,e2⟩:=og b _ e1;exact⟨m1++m2,by rw[e2,Zao]⟩
 .obtain⟨m,hn,hl⟩:=I.loc;refine⟨m,ns m hn,λi x v e1 e2 e3=>?_⟩;obtain⟨u,r,l⟩:=hl i x v e1 e2 e3;refine⟨u,r,?_⟩;rcases l with l|⟨k,c,e,z⟩
  .exact .inl l
  .exact .inr ⟨k,c,e,cellK x c e _ z⟩
 .obtain⟨v,z⟩:=I.cell x c e;exact⟨v,cellK x c e v z⟩
 .obtain⟨m,⟨o,_,_,ho,_⟩,_⟩:=I.loc;exact free _ o (λz=>(dk _ z).2.1 rfl) ho I.free
 .obtain⟨v,o,ho,hd⟩:=I.cell x c e;exact free c o (λz=>(dk c z).2.2.1 x c e rfl) ho (I.Uf x c e)
 .obtain⟨e,n,ne,nf,d⟩:=I.pin p hp;have Rq:p.1∉ch:=λz=>(dk p.1 z).2.2.2 p hp rfl;exact⟨keep p.1 p.2 ne nf Rq e n,free p.1 p.2 Rq e n,ne,nf,d⟩
theorem Inv.un{t':Nat}(I:Inv X pins σ H s)(u:Un X.fs [] H H' s.heap h')(Va:Dd X.prog X.w H' h'):Inv X pins σ H' { s with heap:=h',toks:=t' }:=by obtain⟨m,⟨o,es,ep,ho,r⟩,_⟩:=id I.loc;obtain⟨sl,hL⟩:=u.any ho I.free (by simp);exact I.step (g':=s.gens) (d':=s.drawn) (ch:=[]) (λ_ z=>nomatch z) (λb o _ hb _ e n=>u.keep b o e n hb (by simp)) (λb o _ hb _ e n=>u.slot b o e n hb (by simp)) (λb o _ e n=>u.free b o e n (by simp)) (λb o _ e=>u.there b o e (by simp)) u.tups u.Tf u.og (λm' hm=>by obtain⟨o',es',ep',Ao,r'⟩:=hm;rw[ho]at Ao;cases Ao;exact⟨_,es',ep',hL,r'⟩) Va I.bare
theorem Inv.call{g':Array GenState}{t':Nat}{d':Drawn}{ch:R0}(I:Inv X pins σ H s)(u:Un (frs X.stack) ch H H' s.heap h')(Va:Dd X.prog X.w H' h')(hg:AllBare g')(dk:∀b∈ch,(b∈X.ex\/X.s₀.heap.objs.size<=b)/\b≠X.env.locals/\(∀x c,X.env.cells.lookup x=some c->c≠b)/\∀p∈X.pn++pins,p.1≠b):Inv X pins σ H' { s with heap:=h',gens:=g',drawn:=d',toks:=t' }:=by obtain⟨m,⟨o,es,ep,ho,r⟩,_⟩:=id I.loc;obtain⟨sl,hL⟩:=u.any ho I.free λz=>(dk _ z).2.1 rfl;exact I.step (ch:=ch) dk (λb o hL hb hc e n=>u.keep b o e n (λz=>(T1.mp (I.Oo b z)).elim hL hb) hc) (λb o _ _ hc e n=>u.any e n hc) (λb o hc e n=>u.free b o e n hc) (λb o hc e=>u.there b o e hc) u.tups u.Tf u.og (λm' hm=>by obtain⟨o',es',ep',Ao,r'⟩:=hm;rw[ho]at Ao;cases Ao;exact⟨_,es',ep',hL,r'⟩) Va hg
theorem Inv.turned{t':Nat}{it:Addr}(I:Inv X pins σ H s)(k:∀b o,b≠it->s.heap.get? b=some o->h'.get? b=some o)(hn:H it=none)(hL:it≠X.env.locals)(h1:it∈X.ex\/X.s₀.heap.objs.size<=it)(h2:∀x c,X.env.cells.lookup x=some c->c≠it)(h3:∀p∈X.pn++pins,p.1≠it):Inv X pins σ H { s with heap:=h',toks:=t' }:=by
 have QB:∀b u,H b=some u->b≠it:=λb u e z=>by rw[z,hn]at e;cases e
 refine I.step (g':=s.gens) (d':=s.drawn) (ch:=[it]) (λb hb=>?_) (λb o _ _ hc e _=>k b o (λz=>hc (by simp[z])) e) (λb o _ _ hc e _=>⟨o.slots,k b o (λz=>hc (by simp[z])) e⟩) (λ_ _ _ _ n=>n)
  (λb o hc e=>⟨o,k b o (λz=>hc (by simp[z])) e⟩) (λ_ _ e=>e) (λ_ _ _ e=>e) (λb ps e=>⟨#[],by rw[e];simp⟩) (λm hm=>?_) (λb u e=>?_) I.bare
 .have e:b=it:=by simpa using hb
  subst e;exact⟨h1,hL,h2,h3⟩
 .obtain⟨o,es,ep,ho,r⟩:=hm;exact⟨o,es,ep,k _ o (U3 hL) ho,r⟩
 .refine(I.Va b u e).stay (λc v hc q=>k c v ?_ q) (λ_ q=>q) λ_ _ q=>q;rcases hc with z|z
  .rw[z];exact QB b u e
  .exact QB c _ z
theorem Inv.tok(I:Inv X pins σ H s)(t:Nat):Inv X pins σ H { s with toks:=t }:=I.un (h':=s.heap) (t':=t) Un.refl I.Va
theorem Inv.kept{t':Nat}(I:Inv X pins σ H s)(k:∀b u,s.heap.get? b=some u->h'.get? b=some u):Inv X pins σ H { s with heap:=h',toks:=t' }:=I.un (Un.kept k) (I.Va.kept k)
theorem Inv.laid{a:Addr}{o:HO}{t':Nat}(I:Inv X pins σ H s)(k:∀b u,s.heap.get? b=some u->h'.get? b=some u)(hp:s.heap.objs.size<=a)(new:de X.prog X.w (upd H a o) h' a o):Inv X pins σ (upd H a o) { s with heap:=h',toks:=t' }:=I.un (Un.laid k hp (I.Va.fresh hp)) (I.Va.laid k hp new)
theorem Inv.write{x e:Addr}{o:HO}{t':Nat}(I:Inv X pins σ H s)(mu:Qq (H x))(he:e=x\/H e=some (.own x))(k:∀b u,b≠e->s.heap.get? b=some u->h'.get? b=some u)(Hq:∃u,h'.get? e=some u)(new:de X.prog X.w (upd H x o) h' x o):Inv X pins σ (upd H x o) { s with heap:=h',toks:=t' }:=I.un (Un.write mu he k Hq) (I.Va.write mu he k Hq new)
theorem Inv.Sq{RB:M0}(I:Inv X pins σ H s)(h:∀p∈RB,s.heap.get? p.1=some p.2/\H p.1=none/\p.1≠X.env.locals/\p.1∉X.fs/\∀v,p.2.data≠.cell v):Inv X RB σ H s:=
 ⟨I.ok,I.os,I.bare,I.base,I.loc,I.cell,I.free,I.Uf,λp hp=>(G2.mp hp).elim (λz=>I.pin p (Y2 _ z)) (h p),I.Va,I.len⟩
theorem Ox{N:Q0}(hN:N.Nodup){i j:Nat}{x:Str}(a:N[i]?=some x)(b:N[j]?=some x):i=j:=by obtain⟨h1,e1⟩:=P1.mp a;obtain⟨h2,e2⟩:=P1.mp b;exact(v7 hN).mp (e1.trans e2.symm)
theorem XJ{M:Model}{A:Around}{E:N0}{i:Nat}{x:Str}{v:V}{u:Value}{Q:Unit->Shared->Prop}(I:Inv X pins σ H s)(hN:X.N.Nodup)(hi:X.N[i]?=some x)(hx:Loc X.env.scope x)(r:RelV v u)(h:∀s',Inv X pins (σ.set i (some v)) H s'->(∃a,Heap.SameBut a s.heap s'.heap/\(a=X.env.locals\/X.env.cells.lookup x=some a))->Q () s')(hf:X.fn x=true\/X.env.scope.names.lookup x=some .local:=by first|exact .inl rfl|exact .inr rfl|assumption):wpAny M A (storeName X.env x u) Q E s:=by
 obtain⟨m,hn,hl⟩:=id I.loc;have oY:(X.env.scope.kind==.class||(X.env.scope.kind==.module&&X.env.locals != X.env.globals))=false:=by rw[I.ok.kind];rfl
 have TB:i<σ.length:=by rw[I.len];exact(P1.mp hi).1
 have Ol:=I.Ol;have tracked:∀{a:Addr} {h':Heap},(∃o,s.heap.get? a=some o/\H a=none)->Heap.SameBut a s.heap h'->Dd X.prog X.w H h':=λ{a h'} ha hs b ob e=>by
  obtain⟨_,_,bJ⟩:=ha;refine(I.Va b ob e).stay (λc w' hc q=>(hs.2 c ?_).trans q) (λ_ q=>q) λ_ _ q=>q;rintro rfl;rcases hc with rfl|hc
  .rw[bJ]at e;cases e
  .rw[bJ]at hc;cases hc
 rcases hx with hk|hk
 .refine wpAny_storeName_local hk hn (λh' pY hs=>?_) oY;obtain⟨oL,_,_,hoL,_⟩:=id hn;refine h _ ⟨I.ok,I.os,I.bare,⟨λb o e n hb hx=>?_,λb o e n hb hx=>?_,I.base.free,λb o e hx=>?_,I.base.tups,I.base.Tf,I.base.og⟩,⟨_,pY,λj y v' e1 e2 e3=>?_⟩,λy c e=>?_,I.free,I.Uf,λp hp=>?_,tracked ⟨oL,hoL,I.free⟩ hs,by simpa using I.len⟩ ⟨_,hs,.inl rfl⟩
  .exact(hs.2 b (J2 (Y1 (N1 e) I.ok.above))).trans (I.base.keep b o e n hb hx)
  .obtain⟨sl,e1⟩:=I.base.slot b o e n hb hx;exact⟨sl,(hs.2 b (J2 (Y1 (N1 e) I.ok.above))).trans e1⟩
  .obtain⟨o',e1⟩:=I.base.there b o e hx;exact⟨o',(hs.2 b (J2 (Y1 (N1 e) I.ok.above))).trans e1⟩
  .by_cases hj:j=i
   .subst hj;rw[hi]at e1;cases e1;rw[W2 TB]at e2;cases e2;exact⟨u,r,.inl ⟨hk,by simp⟩⟩
   .rw[Q2 (U3 hj)]at e2;obtain⟨u',r',q⟩:=hl j y v' e1 e2 e3;refine⟨u',r',?_⟩;rcases q with⟨k,e⟩|⟨k,c,e,z⟩
    .refine .inl ⟨k,?_⟩;have:y≠x:=λe=>hj (Ox hN e1 (e▸hi));simp[this,e]
    .exact .inr ⟨k,c,e,z.sameBut hs (Ol y c e)⟩
  .obtain⟨w',z⟩:=I.cell y c e;exact⟨w',z.sameBut hs (Ol y c e)⟩
  .obtain⟨e,n,ne,nf,d⟩:=I.pin p hp;exact⟨(hs.2 p.1 ne).trans e,n,ne,nf,d⟩
 .have li:X.fn x=true:=by
   rcases hf with z|z
   .exact z
   .rw[z]at hk;cases hk
  obtain⟨c,hc⟩:=I.ok.has x (.inl hk);obtain⟨w',z⟩:=I.cell x c hc;refine wpAny_storeName_cell I.ok.kind hk hc z (λh' mi hs=>?_);obtain⟨oc,cJ,YJ⟩:=id z;refine h { s with heap:=h' } ⟨I.ok,I.os,I.bare,⟨λb o e n hb hx=>?_,λb o e n hb hx=>?_,I.base.free,λb o e hx=>?_,I.base.tups,I.base.Tf,I.base.og⟩,⟨m,hn.sameBut hs (U3 (Ol x c hc)),λj y v' e1 e2 e3=>?_⟩,λy c' e=>?_,I.free,I.Uf,λp hp=>?_,tracked ⟨oc,cJ,I.Uf x c hc⟩ hs,by simpa using I.len⟩ ⟨c,hs,.inr hc⟩
  .exact(hs.2 b (J2 (Y1 (N1 e) (I.ok.cab x c li hc)))).trans (I.base.keep b o e n hb hx)
  .obtain⟨sl,e1⟩:=I.base.slot b o e n hb hx;exact⟨sl,(hs.2 b (J2 (Y1 (N1 e) (I.ok.cab x c li hc)))).trans e1⟩
  .obtain⟨o',e1⟩:=I.base.there b o e hx;exact⟨o',(hs.2 b (J2 (Y1 (N1 e) (I.ok.cab x c li hc)))).trans e1⟩
  .by_cases hj:j=i
   .subst hj;rw[hi]at e1;cases e1;rw[W2 TB]at e2;cases e2;exact⟨u,r,.inr ⟨.inl hk,c,hc,mi⟩⟩
   .rw[Q2 (U3 hj)]at e2;obtain⟨u',r',q⟩:=hl j y v' e1 e2 e3;refine⟨u',r',?_⟩;rcases q with q|⟨k,c',e,z'⟩
    .exact .inl q
    .refine .inr ⟨k,c',e,z'.sameBut hs ?_⟩;rintro rfl;exact hj (Ox hN e1 (I.ok.inj _ _ _ e hc▸hi))
  .by_cases Ww:c'=c
   .subst Ww;exact⟨_,mi⟩
   .obtain⟨w2,z2⟩:=I.cell y c' e;exact⟨w2,z2.sameBut hs Ww⟩
  .obtain⟨e,n,ne,nf,d⟩:=I.pin p hp;refine⟨(hs.2 p.1 ?_).trans e,n,ne,nf,d⟩;intro q;rw[q,cJ]at e;have q':oc=p.2:=B3 e;exact d w' (by rw[<-q'];exact YJ)
theorem nu{M:Model}{A:Around}{E:N0}{i:Nat}{x:Str}{v:V}{u:Value}{Q:Unit->Shared->Prop}(I:Inv X pins σ H s)(hN:X.N.Nodup)(hi:X.N[i]?=some x)(hx:Loc X.env.scope x)(r:RelV v u)(h:∀s',Inv X pins (σ.set i (some v)) H s'->Q () s')(hf:X.fn x=true\/X.env.scope.names.lookup x=some .local:=by first|exact .inl rfl|exact .inr rfl|assumption):wpAny M A (storeName X.env x u) Q E s:=
 XJ I hN hi hx r (λs' I' _=>h s' I') hf
theorem Inv.call'{s':Shared}{ch:R0}(I:Inv X pins σ H s)(ho:s'.os=s.os)(u:Un (frs X.stack) ch H H' s.heap s'.heap)(Va:Dd X.prog X.w H' s'.heap)(hg:AllBare s'.gens)(dk:∀b∈ch,(b∈X.ex\/X.s₀.heap.objs.size<=b)/\b≠X.env.locals/\(∀x c,X.env.cells.lookup x=some c->c≠b)/\∀p∈X.pn++pins,p.1≠b):Inv X pins σ H' s':=by obtain⟨h',g',d',t',o'⟩:=s';have e:o'=s.os:=ho;subst e;exact I.call (g':=g') (t':=t') (d':=d') u Va hg dk
end
noncomputable abbrev XK:=Value->Option Addr->Hp->Prop
noncomputable abbrev St:=List (Option V)
noncomputable abbrev VK:=V->Hp->Prop
noncomputable abbrev TE:=St->Hp->VK->Prop
noncomputable abbrev TT:=St->Hp->(Bool->Hp->Prop)->Prop
noncomputable abbrev TA:=St->Hp->(U0->Hp->Prop)->Prop
structure Ends where
 nx:St->Hp->Prop
 rt:VK
 bk:St->Hp->Prop:=λ_ _=>False
 ct:St->Hp->Prop:=λ_ _=>False
noncomputable abbrev TS:=Ends->St->Hp->Prop
noncomputable def EP(X:Cx)(pins:M0)(σ:St)(Q:VK)(u:Value)(s':Shared):Prop:=∃v H',Inv X pins σ H' s'/\RelV v u/\Q v H'
noncomputable def TP(X:Cx)(pins:M0)(σ:St)(Q:Bool->Hp->Prop)(b:Bool)(s':Shared):Prop:=∃H',Inv X pins σ H' s'/\Q b H'
noncomputable def AP(X:Cx)(pins:M0)(σ:St)(Q:U0->Hp->Prop)(us:P0)(s':Shared):Prop:=∃vs H',Inv X pins σ H' s'/\Vals vs us/\Q vs H'
noncomputable def SP(X:Cx)(pins:M0)(D:Ends)(f:Flow)(s':Shared):Prop:=
 match f with
 |.next=>∃σ' H',Inv X pins σ' H' s'/\D.nx σ' H'
 |.brk=>∃σ' H',Inv X pins σ' H' s'/\D.bk σ' H'
 |.cont=>∃σ' H',Inv X pins σ' H' s'/\D.ct σ' H'
 |.ret u=>∃v σ' H',Inv X pins σ' H' s'/\RelV v u/\D.rt v H'
noncomputable def PE(X:Cx)(e:Expr)(t:TE):Prop:=
 ∀(pins:M0) (s:Shared) (σ:St) (H:Hp) (Q:VK),Inv X pins σ H s->t σ H Q->wpAny (model X.prog X.w) X.A (eval e X.env) (EP X pins σ Q) X.xe s
noncomputable def PT(X:Cx)(e:Expr)(t:TT):Prop:=
 ∀(pins:M0) (s:Shared) (σ:St) (H:Hp) (Q:Bool->Hp->Prop),Inv X pins σ H s->t σ H Q->wpAny (model X.prog X.w) X.A (isTrue e X.env (eval e X.env)) (TP X pins σ Q) X.xe s
noncomputable def PW(X:Cx)(e:Expr)(t:TT):Prop:=
 ∀(whole:Sem Value) (pins:M0) (s:Shared) (σ:St) (H:Hp) (Q:Bool->Hp->Prop),Inv X pins σ H s->t σ H Q->wpAny (model X.prog X.w) X.A (isTrue e X.env whole) (TP X pins σ Q) X.xe s
noncomputable def PA(X:Cx)(es:T0)(t:TA):Prop:=
 ∀(pos:Pos) (pins:M0) (s:Shared) (σ:St) (H:Hp) (Q:U0->Hp->Prop),Inv X pins σ H s->t σ H Q->wpAny (model X.prog X.w) X.A (spliced (backTo pos (starEach es X.env))) (AP X pins σ Q) X.xe s
noncomputable def PS(X:Cx)(st:Stmt)(t:TS):Prop:=
 ∀(pins:M0) (s:Shared) (σ:St) (H:Hp) (D:Ends),Inv X pins σ H s->t D σ H->wpAny (model X.prog X.w) X.A (exec st X.env) (SP X pins D) X.xe s
noncomputable def Pe(X:Cx)(st:List Stmt)(t:TS):Prop:=
 ∀(pins:M0) (s:Shared) (σ:St) (H:Hp) (D:Ends),Inv X pins σ H s->t D σ H->wpAny (model X.prog X.w) X.A (execs st X.env) (SP X pins D) X.xe s
theorem Ua{α:Type}{t:Sem α}{Q Q':α->Shared->Prop}{M:Model}{A:Around}{E:N0}{s:Shared}(h:wpAny M A t Q E s)(hQ:∀a s,Q a s->Q' a s):wpAny M A t Q' E s:=K3 h hQ λ_ _ x=>x
section
variable{X:Cx}
noncomputable def UB(i:Nat):TE:=λσ H Q=>∃v,σ[i]?=some (some v)/\Q v H
noncomputable def tC(v:V):TE:=λ_ H Q=>Q v H
theorem kf{i:Nat}{x:Str}{pos:Pos}(hN:X.N[i]?=some x)(hv:ju X.env.scope x)(hd:(x==("__debug__":Str))=false:=by decide)(Mb:(x==("__classdict__":Str))=false:=by decide):PE X (.Name x pos) (UB i):=by
 intro pins s σ H Q I h;obtain⟨v,e,h⟩:=h;obtain⟨m,hn,hl⟩:=I.loc;obtain⟨u,r,l⟩:=hl i x v hN e hv;have fin:EP X pins σ Q u s:=⟨v,H,I,r,h⟩
 rcases l with⟨hk,hm⟩|⟨hk,c,hc,Om⟩
 .exact Zad (wpAny_loadName_local I.ok.kind hk hn hm fin) hd
 .rcases hk with hk|hk
  .exact Zad (wpAny_loadName_cell I.ok.kind hk hc Om fin) hd
  .exact Zad (wpAny_loadName_free I.ok.kind hk hc Om fin Mb) hd
theorem Px{i j pos}:PE X (.Constant (.int i) j pos) (tC (.int i)):=λ_ _ _ H _ I h=>wpAny_Constant_int ⟨.int i,H,I.tok _,⟨_,rfl⟩,h⟩
theorem ZJ{b j pos}:PE X (.Constant (.bool b) j pos) (tC (.bl b)):=λ_ _ _ H _ I h=>Constant_bool ⟨.bl b,H,I,rfl,h⟩
theorem VB{j pos}:PE X (.Constant .none j pos) (tC .non):=λ_ _ _ H _ I h=>Constant_none ⟨.non,H,I,rfl,h⟩
theorem Qx{x j pos}:PE X (.Constant (.str x) j pos) (tC (.str x)):=λ_ _ _ H _ I h=>Calls.Constant_str ⟨.str x,H,I.tok _,⟨_,rfl⟩,h⟩
noncomputable def Gl(X:Cx)(x:Str):Prop:=X.env.kindOf x=some .globalImplicit
theorem Pl{E:N0}{pins:M0}{s:Shared}{σ:St}{H:Hp}{x:Str}{u:Value}{pos:Pos}{Q:N0}(I:Inv X pins σ H s)(hg:Gl X x)(hm:X.mg x=some u)(h:Q u s)(hd:(x==("__debug__":Str))=false:=by decide):wpAny (model X.prog X.w) X.A (eval (.Name x pos) X.env) Q E s:=
 W8 I.ok.kind hg (Calls.loadGlobal_global (by rw[I.ok.glob];exact I.mod.glob.keeps I.bk) hm h) hd
theorem Ri{E:N0}{pins:M0}{s:Shared}{σ:St}{H:Hp}{x:Str}{u:Value}{pos:Pos}{Q:N0}(I:Inv X pins σ H s)(hg:Gl X x)(hm:X.mg x=none)(hv:bootBuiltins x=some u)(h:Q u s)(hn:x≠"__name__":=by decide)(hd:(x==("__debug__":Str))=false:=by decide):wpAny (model X.prog X.w) X.A (eval (.Name x pos) X.env) Q E s:=by obtain⟨mb,h1,h2⟩:=I.mod.blt;exact W8 I.ok.kind hg (Calls.loadGlobal_builtin (by rw[I.ok.glob];exact I.mod.glob.keeps I.bk) hm (by rw[I.ok.blt];exact h1.keeps I.bk) ((h2 x hn).trans hv) h) hd
theorem WB{x:Str}{v:V}{u:Value}{pos:Pos}(hg:Gl X x)(hm:X.mg x=some u)(r:RelV v u)(hd:(x==("__debug__":Str))=false:=by decide):PE X (.Name x pos) (tC v):=
 λ_ _ _ H _ I h=>Pl I hg hm ⟨v,H,I,r,h⟩ hd
theorem aK{x:Str}{v:V}{u:Value}{pos:Pos}(hg:Gl X x)(hm:X.mg x=none)(hv:bootBuiltins x=some u)(r:RelV v u)(hn:x≠"__name__":=by decide)(hd:(x==("__debug__":Str))=false:=by decide):PE X (.Name x pos) (tC v):=
 λ_ _ _ H _ I h=>Ri I hg hm hv ⟨v,H,I,r,h⟩ hn hd
noncomputable def Ob(ta tb:TE)(k:Int->Int->Hp->Prop):St->Hp->Prop:=λσ H=>ta σ H λx H1=>tb σ H1 λy H2=>∃i j,x=.int i/\y=.int j/\k i j H2
variable{a b:Expr}{ta tb:TE}{pos:Pos}
noncomputable def PC(X:Cx)(op:CmpOp)(a b:Expr)(t:TE):Prop:=
 ∀(pins:M0) (s:Shared) (σ:St) (H:Hp) (Q:VK),Inv X pins σ H s->t σ H Q->
  wpAny (model X.prog X.w) X.A (eval a X.env) (λv s₁=>wpAny (model X.prog X.w) X.A (eval b X.env) (λu s₂=>wpAny (model X.prog X.w) X.A (compareOp op v u) (EP X pins σ Q) X.xe s₂) X.xe s₁) X.xe s
theorem bK(b:Expr){op:CmpOp}(h:op≠.In)(h2:op≠.NotIn):behindInMarks op b=false:=by
 have e1:(op==CmpOp.In)=false:=by cases op<;>first|rfl|exact absurd rfl h
 have e2:(op==CmpOp.NotIn)=false:=by cases op<;>first|rfl|exact absurd rfl h2
 cases b<;>simp[behindInMarks,e1,e2]
noncomputable def vk(ta:TE):TE:=λσ H Q=>ta σ H λx H1=>Q (.bl (decide (x=.non))) H1
noncomputable def tB(t:TE):TT:=λσ H Q=>t σ H λx H1=>∃c,x=.bl c/\Q c H1
theorem xk{op:CmpOp}{t:TE}(h:PC X op a b t)(h1:behindInMarks op b=false:=by first|exact bK _ (by decide) (by decide)|rfl):PT X (.Compare a [op] [b] pos) (tB t):=by intro pins s σ H Q I hw;refine O9 (Ua (h pins s σ H _ I hw) λv s1 h1=>Ua h1 λu s2 h2=>Ua h2 λc s3 ⟨x,H1,I1,r1,q1⟩=>?_) h1;obtain⟨d,rfl,q⟩:=q1;cases r1;exact G5 ⟨H1,I1,q⟩
theorem cK{e:Expr}{t:TE}(h:PE X e t)(he:∀whole,isTrue e X.env whole=(do let v <-whole;standAt e.pos;holding [v] (truthy v)):=by intro _;rfl):PT X e (tB t):=by intro pins s σ H Q I hw;refine isTrue_plain (Ua (h pins s σ H _ I hw) λv s1 ⟨x,H1,I1,r1,q1⟩=>?_) (he _);obtain⟨d,rfl,q⟩:=q1;cases r1;exact G5 ⟨H1,I1,q⟩
variable{tA ou:TT}{rest:T0}
noncomputable def Kc(t u:TT):TT:=λσ H Q=>t σ H λc H1=>if c=true then u σ H1 Q else Q false H1
noncomputable def Nf(t u:TT):TT:=λσ H Q=>t σ H λc H1=>if c=true then Q true H1 else u σ H1 Q
noncomputable def Ye(t:TT):TT:=λσ H Q=>t σ H λc H1=>Q (!c) H1
theorem eK(ha:PT X a tA):PW X (.BoolOp .And [a] pos) tA:=by
 intro wh pins s σ H Q I h;refine isTrue_and (Ua (ha pins s σ H Q I h) λc s1 e=>?_);cases c with
 |true=>exact isTrue_and_nil e
 |false=>exact e
theorem fK(ha:PT X a tA):PW X (.BoolOp .Or [a] pos) tA:=by
 intro wh pins s σ H Q I h;refine isTrue_or (Ua (ha pins s σ H Q I h) λc s1 e=>?_);cases c with
 |false=>exact isTrue_or_nil e
 |true=>exact e
theorem gK(ha:PT X a tA)(hb:PW X (.BoolOp .And (b::rest) pos) ou):PW X (.BoolOp .And (a::b::rest) pos) (Kc tA ou):=by
 intro wh pins s σ H Q I h;refine isTrue_and (Ua (ha pins s σ H _ I h) λc s1 ⟨H1,I1,q1⟩=>?_);cases c with
 |true=>exact hb wh pins s1 σ H1 Q I1 q1
 |false=>exact⟨H1,I1,q1⟩
theorem iK(ha:PT X a tA)(hb:PW X (.BoolOp .Or (b::rest) pos) ou):PW X (.BoolOp .Or (a::b::rest) pos) (Nf tA ou):=by
 intro wh pins s σ H Q I h;refine isTrue_or (Ua (ha pins s σ H _ I h) λc s1 ⟨H1,I1,q1⟩=>?_);cases c with
 |true=>exact⟨H1,I1,q1⟩
 |false=>exact hb wh pins s1 σ H1 Q I1 q1
theorem Xm(ha:PT X a tA):PT X (.UnaryOp .Not a pos) (Ye tA):=by intro pins s σ H Q I h;exact isTrue_not (ha pins s σ H (λc H1=>Q (!c) H1) I h)
noncomputable def jK(ta tb:TE):TE:=λσ H Q=>ta σ H λx H1=>∃c,x=.bl c/\if c=true then tb σ H1 Q else Q (.bl false) H1
theorem kK{op}{t:TE}(h:PE X a t):PE X (.BoolOp op [a] pos) t:=λpins s σ H Q I hw=>BoolOp_one (h pins s σ H Q I hw)
theorem lK(ha:PE X a ta)(hb:PE X (.BoolOp .And (b::rest) pos) tb):PE X (.BoolOp .And (a::b::rest) pos) (jK ta tb):=by
 intro pins s σ H Q I h;refine BoolOp_and (Ua (ha pins s σ H _ I h) λv s1 ⟨x,H1,I1,r1,q1⟩=>?_);obtain⟨c,rfl,q1⟩:=q1;cases r1;refine G5 ?_;cases c with
 |true=>exact hb pins s1 σ H1 Q I1 q1
 |false=>exact⟨.bl false,H1,I1,rfl,q1⟩
end
noncomputable def Cc(K:Frag)(H:Hp)(a:Addr)(xs:U0):Prop:=
 Rd H a (.lst xs)\/
  ∃(o:Obj) (its:Array Value) (n:Nat),K.lookup a=some o/\o.cls=.type "list"/\o.dict=none/\o.data=.seq its n/\its.size<=sizeLine/\Vals xs its.toList
noncomputable def Qe(K:Frag)(H:Hp)(a:Addr)(xs:U0):Prop:=
 Rd H a (.tup xs)\/
  ∃(o:Obj) (its:Array Value) (n:Nat),K.lookup a=some o/\o.cls=.type "tuple"/\o.data=.seq its n/\its.size<=sizeLine/\Vals xs its.toList
noncomputable def mK:Value->Option V
 |.none=>some .non
 |.bool b=>some (.bl b)
 |.int i _=>some (.int i)
 |.str x _=>some (.str x)
 |.bytes b _=>some (.Kx b)
 |.float b _=>some (.flt b)
 |.ref a=>some (.ref a)
 |.type n=>some (.ty n)
 |_=>none
theorem RelV.abs{x:V}{u:Value}(r:RelV x u):mK u=some x:=by
 cases x with
 |non=>cases r;rfl
 |bl _=>cases r;rfl
 |int _=>obtain⟨t,rfl⟩:=r;rfl
 |str _=>obtain⟨t,rfl⟩:=r;rfl
 |Kx _=>obtain⟨t,rfl⟩:=r;rfl
 |flt _=>obtain⟨t,rfl⟩:=r;rfl
 |ref _=>cases r;rfl
 |ty _=>cases r;rfl
theorem RelV.inj{x y:V}{u:Value}(r:RelV x u)(q:RelV y u):x=y:=B3 (r.abs.symm.trans q.abs)
theorem Vals.inj:∀{xs ys:U0} {us:P0},Vals xs us->Vals ys us->xs=ys
 |_,_,_,.nil,.nil=>rfl
 |_,_,_,.cons r t,.cons r' t'=>by rw[r.inj r',Vals.inj t t']
section
variable{X:Cx}{pins:M0}{σ:St}{H:Hp}{s:Shared}{a:Addr}{xs ys:U0}
theorem Cc.of{K:Frag}(h:H a=some (.lst xs)):Cc K H a xs:=.inl (.inl h)
theorem Qe.of{K:Frag}(h:H a=some (.tup xs)):Qe K H a xs:=.inl (.inl h)
theorem Inv.list(I:Inv X pins σ H s)(h:Cc X.K H a xs):∃its:P0,Vals xs its/\PlainL s.heap a its.toArray/\xs.length<=sizeLine:=by
 rcases h with h|⟨o,its,n,hk,hc,hd,hs,hz,r⟩
 .obtain⟨z,its,n,r,e⟩:=h.ok I.Va;exact⟨its,r,⟨_,n,e,rfl,rfl,rfl⟩,z⟩
 .refine⟨its.toList,r,⟨o,n,I.Jg a o hk,hc,hd,by simpa using hs⟩,?_⟩;have e:=r.length;simp only[R4]at e;omega
theorem Inv.tuple(I:Inv X pins σ H s)(h:Qe X.K H a xs):∃its:P0,Vals xs its/\IsTup s.heap a its.toArray/\xs.length<=sizeLine:=by
 rcases h with h|⟨o,its,n,hk,hc,hs,hz,r⟩
 .obtain⟨z,its,r,p⟩:=h.ok I.Va;exact⟨its,r,p,z⟩
 .refine⟨its.toList,r,⟨o,I.Jg a o hk,hc,n,by simpa using hs⟩,?_⟩;have e:=r.length;simp only[R4]at e;omega
theorem Inv.XB(I:Inv X pins σ H s)(h:Cc X.K H a xs)(h':Cc X.K H a ys):xs=ys:=by
 obtain⟨its,r,⟨o,n,e,_,_,d⟩,_⟩:=I.list h;obtain⟨its',r',⟨o',n',e',_,_,d'⟩,_⟩:=I.list h';rw[e]at e';cases e';rw[d]at d';injection d' with d1 _;have:its=its':=by simpa using p5 Array.toList d1
 subst this;exact r.inj r'
theorem Inv.nK(I:Inv X pins σ H s)(h:Qe X.K H a xs)(h':Qe X.K H a ys):xs=ys:=by
 obtain⟨its,r,⟨o,e,_,n,d⟩,_⟩:=I.tuple h;obtain⟨its',r',⟨o',e',_,n',d'⟩,_⟩:=I.tuple h';rw[e]at e';cases e';rw[d]at d';injection d' with d1 _;have:its=its':=by simpa using p5 Array.toList d1
 subst this;exact r.inj r'
end
noncomputable abbrev Cx.wish(X:Cx)(E:N0):Cx:={ X with xe:=E }
noncomputable abbrev Cx.qc(X:Cx):Cx:=X.wish λ_ _=>False
theorem Cx.Ok.wish{X:Cx}(ok:X.Ok)(E:N0):(X.wish E).Ok:=
 ⟨ok.mod,ok.kind,ok.glob,ok.blt,ok.above,ok.inj,ok.has,ok.cab,ok.hd,ok.frames,ok.stk,ok.No,ok.bs,ok.ph,ok.Nl,ok.Wm,ok.qg,ok.Qi⟩
theorem Cx.Ok.Of{X:Cx}{E:N0}(ok:(X.wish E).Ok):X.Ok:=
 ⟨ok.mod,ok.kind,ok.glob,ok.blt,ok.above,ok.inj,ok.has,ok.cab,ok.hd,ok.frames,ok.stk,ok.No,ok.bs,ok.ph,ok.Nl,ok.Wm,ok.qg,ok.Qi⟩
section
variable{X:Cx}{pins:M0}{σ:St}{H:Hp}{s:Shared}{E:N0}
theorem Inv.wish(I:Inv X pins σ H s)(E:N0):Inv (X.wish E) pins σ H s:=⟨I.ok.wish E,I.os,I.bare,I.base,I.loc,I.cell,I.free,I.Uf,I.pin,I.Va,I.len⟩
theorem Inv.Of(I:Inv (X.wish E) pins σ H s):Inv X pins σ H s:=⟨I.ok.Of,I.os,I.bare,I.base,I.loc,I.cell,I.free,I.Uf,I.pin,I.Va,I.len⟩
theorem SP.Of{D:Ends}{f:Flow}{s':Shared}(h:SP (X.wish E) pins D f s'):SP X pins D f s':=by
 cases f with
 |next=>obtain⟨σ',H',I,q⟩:=h;exact⟨σ',H',I.Of,q⟩
 |brk=>obtain⟨σ',H',I,q⟩:=h;exact⟨σ',H',I.Of,q⟩
 |cont=>obtain⟨σ',H',I,q⟩:=h;exact⟨σ',H',I.Of,q⟩
 |ret u=>obtain⟨v,σ',H',I,r,q⟩:=h;exact⟨v,σ',H',I.Of,r,q⟩
theorem PE.qc{e:Expr}{t:TE}(h:PE X.qc e t):PE X e t:=λpins s σ H Q I hw=>
 K3 (h pins s σ H Q (I.wish _) hw) (λ_ _ ⟨v,H',I',r,q⟩=>⟨v,H',I'.Of,r,q⟩) λ_ _ z=>False.elim z
theorem PT.qc{e:Expr}{t:TT}(h:PT X.qc e t):PT X e t:=λpins s σ H Q I hw=>
 K3 (h pins s σ H Q (I.wish _) hw) (λ_ _ ⟨H',I',q⟩=>⟨H',I'.Of,q⟩) λ_ _ z=>False.elim z
theorem Pe.qc{st:List Stmt}{t:TS}(h:Pe X.qc st t):Pe X st t:=λpins s σ H D I hw=>
 K3 (h pins s σ H D (I.wish _) hw) (λ_ _ q=>q.Of) λ_ _ z=>False.elim z
end
section
variable{X:Cx}{st:Stmt}{rest:List Stmt}{t u:TS}{e:Expr}{te:TE}{pos:Pos}
noncomputable def oK:TS:=λD σ H=>D.nx σ H
noncomputable def pK(t u:TS):TS:=λD σ H=>t { D with nx:=u D } σ H
theorem qK:Pe X [] oK:=λ_ _ σ H _ I h=>Q5 ⟨σ,H,I,h⟩
theorem rK(h1:PS X st t)(h2:Pe X rest u):Pe X (st::rest) (pK t u):=by
 intro pins s σ H D I h;refine y6 (Ua (h1 pins s σ H { D with nx:=u D } I h) λf s1 q=>?_);cases f with
 |next=>obtain⟨σ',H',I',q⟩:=q;exact h2 pins s1 σ' H' D I' q
 |ret v=>exact q
 |brk=>exact q
 |cont=>exact q
theorem sK(h1:PS X st t):Pe X [st] t:=by
 intro pins s σ H D I h;refine y6 (Ua (h1 pins s σ H D I h) λf s1 q=>?_);cases f with
 |next=>exact Q5 q
 |ret v=>exact q
 |brk=>exact q
 |cont=>exact q
theorem Inv.quiet{pins:M0}{σ:St}{H:Hp}{s:Shared}(I:Inv X pins σ H s):interactive X.env=false:=by simp[interactive,I.ok.kind]
noncomputable def tK(te:TE):TS:=λD σ H=>te σ H λ_ H1=>D.nx σ H1
theorem Po(he:PE X e te)(hs:swapsWith e none pos.line X.env=pure false:=by rfl):PS X (.Expr e pos) (tK te):=by intro pins s σ H D I h;exact wpAny_Expr_any (Ua (he pins s σ H _ I h) λv s1 ⟨x,H1,I1,r1,q1⟩=>⟨σ,H1,I1,q1⟩) I.quiet hs
noncomputable def uK(te:TE):TS:=λD σ H=>te σ H D.rt
theorem qu(he:PE X e te):PS X (.Return (some e) pos) (uK te):=by intro pins s σ H D I h;exact Zas (Ua (he pins s σ H _ I h) λv s1 ⟨x,H1,I1,r1,q1⟩=>⟨x,σ,H1,I1,r1,q1⟩)
noncomputable def vK(c:TT)(t u:TS):TS:=λD σ H=>c σ H λb H1=>if b=true then t D σ H1 else u D σ H1
theorem wK{c:Expr}{a b:List Stmt}{tc:TT}(hc:PT X c tc)(ha:Pe X a t)(hb:Pe X b u):PS X (.If c a b pos) (vK tc t u):=by
 intro pins s σ H D I h;refine wpAny_If (Ua (hc pins s σ H _ I h) λd s1 ⟨H1,I1,q1⟩=>?_);cases d with
 |true=>exact ha pins s1 σ H1 D I1 q1
 |false=>exact hb pins s1 σ H1 D I1 q1
end
noncomputable abbrev TG:=V->St->Hp->(St->Hp->Prop)->Prop
noncomputable abbrev Ym:=U0->St->Hp->(St->Hp->Prop)->Prop
noncomputable def PG(X:Cx)(target:Expr)(t:TG):Prop:=
 ∀(pins:M0) (s:Shared) (σ:St) (H:Hp) (v:V) (u:Value) (Q:St->Hp->Prop),Inv X pins σ H s->RelV v u->t v σ H Q->
  wpAny (model X.prog X.w) X.A (assign target X.env u) (λ_ s'=>∃σ' H',Inv X pins σ' H' s'/\Q σ' H') X.xe s
noncomputable def su(X:Cx)(ts:T0)(t:Ym):Prop:=
 ∀(pins:M0) (s:Shared) (σ:St) (H:Hp) (vs:U0) (us:P0) (Q:St->Hp->Prop),Inv X pins σ H s->Vals vs us->t vs σ H Q->
  wpAny (model X.prog X.w) X.A (assignInOrder ((assignEach ts X.env).map (·.2)) us) (λ_ s'=>∃σ' H',Inv X pins σ' H' s'/\Q σ' H') X.xe s
noncomputable abbrev Rx:=V->V->V->Hp->(Hp->Prop)->Prop
noncomputable def YB(X:Cx)(t:Rx):Prop:=
 ∀(pins:M0) (s:Shared) (σ:St) (H:Hp) (o i v:V) (ov iv u:Value) (Q:Hp->Prop),Inv X pins σ H s->RelV o ov->RelV i iv->RelV v u->t o i v H Q->
  wpAny (model X.prog X.w) X.A (setItem ov iv u) (λ_ s'=>∃H',Inv X pins σ H' s'/\Q H') X.xe s
section
variable{X:Cx}{pos:Pos}
noncomputable def Tq(i:Nat):TG:=λv σ H Q=>Q (σ.set i (some v)) H
theorem tu{i:Nat}{x:Str}(hN:X.N.Nodup)(hi:X.N[i]?=some x)(hx:Loc X.env.scope x)(hf:X.fn x=true\/X.env.scope.names.lookup x=some .local:=by first|exact .inl rfl|exact .inr rfl|assumption):PG X (.Name x pos) (Tq i):=by intro pins s σ H v u Q I r h;exact Zar (nu I hN hi hx r (λs' I'=>⟨_,H,I',h⟩) hf)
noncomputable def xK:Ym:=λvs σ H Q=>vs=[]/\Q σ H
noncomputable def yK(t:TG)(u:Ym):Ym:=λvs σ H Q=>∃v r,vs=v::r/\t v σ H λσ' H'=>u r σ' H' Q
theorem zK:su X [] xK:=by intro pins s σ H vs us Q I r h;obtain⟨e,h⟩:=h;subst e;cases r;exact assignInOrder_nil ⟨σ,H,I,h⟩
theorem ZB{e:Expr}{es:T0}{t:TG}{u:Ym}(h1:PG X e t)(h2:su X es u)(hs:(assignEach (e::es) X.env).map (·.2)=assign e X.env::(assignEach es X.env).map (·.2):=by rfl):su X (e::es) (yK t u):=by
 intro pins s σ H vs us Q I r h;obtain⟨v,vr,e1,h⟩:=h;subst e1;cases r with
 |cons r rr=>rw[hs];refine assignInOrder_cons (Ua (h1 pins s σ H _ _ _ I r h) λ_ s1 ⟨σ1,H1,I1,q1⟩=>?_);exact h2 pins s1 σ1 H1 _ _ Q I1 rr q1
noncomputable def AK(K:Frag)(n:Nat)(t:Ym):TG:=λv σ H Q=>∃a xs,v=.ref a/\Qe K H a xs/\xs.length=n/\t xs σ H Q
theorem BK{es:T0}{k:Nat}{t:Ym}{n:Nat}(hc:X.calm=true)(h:su X es t)(hn:(assignEach es X.env).length=n:=by rfl)(Sc:(assignEach es X.env).findIdx? (·.1)=none:=by rfl):PG X (.Tuple es k pos) (AK X.K n t):=by intro pins s σ H v u Q I r hw;obtain⟨a,xs,e1,hq,hl,hw⟩:=hw;subst e1;cases r;obtain⟨its,rv,ht,hz⟩:=I.tuple hq;refine assign_Tuple_tuple (I.ok.hd hc) ht (by simp[hn,<-hl,rv.length]) Sc λh' hx=>?_;have I1:Inv X pins σ H { s with heap:=h' }:=I.kept (t':=s.toks) λb o e=>hx b o (J2 (N1 e)) e;exact h pins _ σ H xs _ Q I1 (by simpa using rv) hw
noncomputable def CK(to ti:TE)(t:Rx):TG:=λv σ H Q=>to σ H λo H1=>ti σ H1 λi H2=>t o i v H2 λH3=>Q σ H3
theorem aC{o i:Expr}{to ti:TE}{t:Rx}(ho:PE X o to)(hi:PE X i ti)(hs:YB X t)
  (ha:∀v,assign (.Subscript o i pos) X.env v=(do
   let ov <-holding [v] (eval o X.env);let iv <-holding [v,ov] (eval i X.env)
   standAt pos
   holding [v,ov,iv] (setItem ov iv v)
   release [v,ov,iv] []):=by intro _;rfl):PG X (.Subscript o i pos) (CK to ti t):=by
 intro pins s σ H v u Q I r h;rw[ha];refine X0 (Y3 (Ua (ho pins s σ H _ I h) λov s1 ⟨x,H1,I1,r1,q1⟩=>?_));refine X0 (Y3 (Ua (hi pins s1 σ H1 _ I1 q1) λiv s2 ⟨y,H2,I2,r2,q2⟩=>?_));refine X0 (f8 (X0 (Y3 (Ua (hs pins s2 σ H2 x y v ov iv u _ I2 r1 r2 r q2) λ_ s3 ⟨H3,I3,q3⟩=>?_))));exact wpAny_release ⟨σ,H3,I3,q3⟩
noncomputable def uu(te:TE)(g:TG):TS:=λD σ H=>te σ H λx H1=>g x σ H1 D.nx
theorem bC{tg e:Expr}{te:TE}{g:TG}(he:PE X e te)(hg:PG X tg g)(hs:swapsWithSole [tg] e pos.line X.env=pure false:=by rfl)(hw:swappedStores [tg] e X.env=pure none:=by rfl)(h1:(assignEach [tg] X.env).map (·.2)=[assign tg X.env]:=by rfl):PS X (.Assign [tg] e pos) (uu te g):=by intro pins s σ H D I h;refine wpAny_Assign_stores (Ua (he pins s σ H _ I h) λv s1 ⟨x,H1,I1,r1,q1⟩=>?_) hs hw;rw[h1];exact Ua (hg pins s1 σ H1 x v _ I1 r1 q1) λ_ s2 q=>q
theorem Zm{i:Nat}{x:Str}{e:Expr}{te:TE}{pos':Pos}(hN:X.N.Nodup)(hi:X.N[i]?=some x)(hx:Loc X.env.scope x)(he:PE X e te)(hs:swapsWith e (some (.Name x pos')) pos.line X.env=pure false:=by rfl)(hf:X.fn x=true\/X.env.scope.names.lookup x=some .local:=by first|exact .inl rfl|exact .inr rfl|assumption):PS X (.Assign [.Name x pos'] e pos) (uu te (Tq i)):=by intro pins s σ H D I h;refine wpAny_Assign_Name (Ua (he pins s σ H _ I h) λv s1 ⟨y,H1,I1,r1,q1⟩=>?_) hs;exact nu I1 hN hi hx r1 (λs2 I2=>⟨_,H1,I2,q1⟩) hf
end
section
variable{X:Cx}{pos:Pos}
noncomputable def DK(c:TT)(tb:TS):TS:=λD σ H=>∃W:Nat->St->Hp->Prop,(∃m,W m σ H)/\∀m σ H,W m σ H->
 c σ H λb H1=>if b=true then ∃N:St->Hp->Prop,(∀σ' H',N σ' H'->∃m',m'<m/\W m' σ' H')/\tb { D with nx:=N,ct:=N,bk:=D.nx } σ H1 else D.nx σ H1
theorem EK{c:Expr}{body:List Stmt}{tc:TT}{tb:TS}(hp:PassesOwn (model X.prog X.w) X.A X.env X.xe)(hc:PT X c tc)(hb:Pe X body tb):PS X (.While c body [] pos) (DK tc tb):=by
 intro pins s σ H D I h;obtain⟨W,⟨m0,w0⟩,turn⟩:=h;refine wpAny_While (codeAny_whileLoop (λn s'=>∃σ' H',Inv X pins σ' H' s'/\W n σ' H') ?_ m0 ⟨σ,H,I,w0⟩);rintro n s1 ⟨σ1,H1,I1,w1⟩;refine O3 hp (Ua (hc pins s1 σ1 H1 _ I1 (turn n σ1 H1 w1)) λb s2 ⟨H2,I2,q2⟩=>?_);cases b with
 |true=>
  obtain⟨N,hN,q2⟩:=q2;rw[Q1 rfl];refine O3 hp (Ua (hb pins s2 σ1 H2 _ I2 q2) λf s3 q3=>?_);cases f with
  |next=>obtain⟨σ3,H3,I3,n3⟩:=q3;obtain⟨m',hm,w3⟩:=hN σ3 H3 n3;exact⟨m',hm,σ3,H3,I3,w3⟩
  |cont=>obtain⟨σ3,H3,I3,n3⟩:=q3;obtain⟨m',hm,w3⟩:=hN σ3 H3 n3;exact⟨m',hm,σ3,H3,I3,w3⟩
  |brk=>exact q3
  |ret v=>exact q3
 |false=>rw[B2 Z6];exact Q5 ⟨σ1,H2,I2,q2⟩
end
structure It where
 go:Nat->Hp->Prop
 tj:Nat->Hp->V->Hp->Prop
 stop:Nat->Hp->Prop
noncomputable def qh(X:Cx)(pins:M0)(H:Hp)(b:Addr):Prop:=
 H b=none/\b≠X.env.locals/\b∉X.fs/\(b∈X.ex\/X.s₀.heap.objs.size<=b)/\(∀x c,X.env.cells.lookup x=some c->c≠b)/\∀p∈X.pn++pins,p.1≠b
theorem Inv.Qo{X:Cx}{pins:M0}{σ:St}{H H':Hp}{s:Shared}{b:Addr}(I:Inv X pins σ H s)(hb:s.heap.objs.size<=b)(hn:H' b=none):qh X pins H' b:=by
 refine⟨hn,a6 (Y1 I.lt hb),I.ku hb,.inr (E3 I.sz hb),λx c e z=>?_,λp hp z=>?_⟩
 .obtain⟨v,q⟩:=I.cell x c e;exact absurd (Y1 q.lt (by rw[z];exact hb)) (O4 _)
 .exact absurd (Y1 (N1 (I.pin p hp).1) (by rw[z];exact hb)) (O4 _)
structure Turn(P:Program)(w:World)(K:Frag)(tg:Expr)(J:It)(fp:R0)(it:Addr)(tn:Nat->Heap->Prop):Prop where
 mem:it∈fp
 obj:∀i h,tn i h->∀b∈fp,∃o,h.get? b=some o/\∀v,o.data≠.cell v
 keep:∀i h h',tn i h->(∀b∈fp,∀o,h.get? b=some o->h'.get? b=some o)->tn i h'
 item:∀(X:Cx),X.prog=P->X.w=w->X.K=K->X.calm=true->∀(i:Nat) (pins:M0) (s:Shared) (σ:St) (H:Hp) (E:N0),Inv X pins σ H s->(∀b∈fp,qh X pins H b)->tn i s.heap->J.go i H->
  wpAny (model P w) X.A (pyNext (.ref it)) (λr s1=>∃u,r=some u/\
   wpAny (model P w) X.A (letOwnedTupleGo tg (.ref it) u) (λ_ s2=>∃x H',Inv X pins σ H' s2/\RelV x u/\J.tj i H x H'/\tn (i+1) s2.heap/\∀b∈fp,H' b=none) E s1) E s
 done:∀(X:Cx),X.prog=P->X.w=w->X.K=K->X.calm=true->∀(i:Nat) (pins:M0) (s:Shared) (σ:St) (H:Hp) (E:N0),Inv X pins σ H s->(∀b∈fp,qh X pins H b)->tn i s.heap->J.stop i H->
  wpAny (model P w) X.A (pyNext (.ref it)) (λr s1=>r=none/\Inv X pins σ H s1) E s
 self:∀(A:Around) (i:Nat) (s:Shared) (Q:N0) (E:N0),tn i s.heap->Q (.ref it) s->wpAny (model P w) A (pyIter (.ref it)) Q E s
noncomputable abbrev TI:=St->Hp->(It->Hp->Prop)->Prop
noncomputable def PIE(X:Cx)(pins:M0)(σ:St)(tg:Expr)(R:It->Hp->Prop)(itv:Value)(s2:Shared):Prop:=
 ∃(it:Addr) (fp:R0) (tn:Nat->Heap->Prop) (J:It) (H':Hp),itv=.ref it/\Inv X pins σ H' s2/\Turn X.prog X.w X.K tg J fp it tn/\tn 0 s2.heap/\(∀b∈fp,qh X pins H' b)/\R J H'
noncomputable def PI(X:Cx)(tg iter:Expr)(wi:TI):Prop:=
 ∀(pins:M0) (s:Shared) (σ:St) (H:Hp) (R:It->Hp->Prop),Inv X pins σ H s->wi σ H R->
  wpAny (model X.prog X.w) X.A (eval iter X.env) (λv s1=>wpAny (model X.prog X.w) X.A (pyIter v) (PIE X pins σ tg R) X.xe s1) X.xe s
theorem wu{M : Model}{A : Around}{E : Value → Shared → Prop}{s : Shared}{tg : Expr}{it : Addr}{u : Value}{o : Obj}{n : String}{vs : Array Value}{Q : Unit → Shared → Prop}(ho : s.heap.get? it = some o)(hc : o.cls = .type n)(hd : o.data = .fields vs)(hn : ["enumerate", "zip", "dict_itemiterator", "dict_reverseitemiterator", "odict_iterator", "itertools.zip_longest", "itertools.pairwise"].contains n = false)(hQ : Q () s): wpAny M A (letOwnedTupleGo tg (.ref it) u) Q E s := by
  unfold letOwnedTupleGo
  cases tg <;> first
    | exact G1 hQ
    | (cases u <;> first
        | exact G1 hQ
        | (refine X0 (wpAny_load ho ?_)
           rw [hc, hd]
           show wpAny M A (if (["enumerate", "zip", "dict_itemiterator", "dict_reverseitemiterator", "odict_iterator", "itertools.zip_longest", "itertools.pairwise"].contains n && vs[0]? == some (rawInt _)) = true then _ else _) Q E s
           rw [B2 (by intro h; rw [hn, Bool.false_and] at h; cases h)]
           exact G1 hQ))
noncomputable def cC(K:Frag)(a:Addr):It:=
 ⟨λi H=>∃xs x,Cc K H a xs/\xs[i]?=some x,λi H x H'=>H'=H/\∀xs,Cc K H a xs->xs[i]?=some x,λi H=>∃xs,Cc K H a xs/\xs.length<=i⟩
noncomputable def dC(K:Frag)(a:Addr):It:=
 ⟨λi H=>∃xs x,Qe K H a xs/\xs[i]?=some x,λi H x H'=>H'=H/\∀xs,Qe K H a xs->xs[i]?=some x,λi H=>∃xs,Qe K H a xs/\xs.length<=i⟩
noncomputable def Uq(lo:Int)(n:Nat):It:=⟨λi _=>i<n,λi H x H'=>H'=H/\x=.int (lo+i),λi _=>n<=i⟩
theorem FK{P:Program}{w:World}{K:Frag}{tg:Expr}(a it:Addr):Turn P w K tg (cC K a) [it] it (λi h=>h.IsListIter it a i) where
 mem:=by simp
 obj:=λi h st b hb=>by
  have e:b=it:=by simpa using hb
  subst e;obtain⟨o,e,c,d⟩:=st;exact⟨o,e,λv z=>by rw[d]at z;cases z⟩
 keep:=λi h h' st k=>st.at λo e=>k it (by simp) o e
 item:=by intro X hP hw hK hc i pins s σ H E I hf st hg;subst hP hw hK;obtain⟨xs,x,hq,hx⟩:=hg;obtain⟨its,rv,p,hz⟩:=I.list hq;obtain⟨u,hu,ru⟩:=rv.get hx;obtain⟨f0,f1,f2,f3,f4,f5⟩:=hf it (by simp);refine wpAny_pyNext_list_item st p.isList (x:=u) (by simpa using hu) λh' st' sb=>?_;have I1:Inv X pins σ H { s with heap:=h' }:=I.turned (t':=s.toks) (λb o hb e=>(sb.2 b hb).trans e) f0 f1 f3 f4 f5;obtain⟨o,e,c,d⟩:=id st';exact⟨u,rfl,wu (s:={ s with heap:=h' }) e c d (by decide) ⟨x,H,I1,ru,⟨rfl,λys hy=>by rw[I.XB hy hq];exact hx⟩,st',λb hb=>(hf b hb).1⟩⟩
 done:=by intro X hP hw hK hc i pins s σ H E I hf st hg;subst hP hw hK;obtain⟨xs,hq,hx⟩:=hg;obtain⟨its,rv,p,hz⟩:=I.list hq;obtain⟨f0,f1,f2,f3,f4,f5⟩:=hf it (by simp);have hl:=rv.length;exact wpAny_pyNext_list_end (I.ok.hd hc) st p.isList (by simp;omega) λh' eb=>⟨rfl,I.turned (t':=s.toks) (λb o hb e=>eb b o hb e) f0 f1 f3 f4 f5⟩
 self:=λ_ _ _ _ _ st h=>wpAny_pyIter_listiter st h
theorem GK{P:Program}{w:World}{K:Frag}{tg:Expr}(a it:Addr):Turn P w K tg (dC K a) [it] it (λi h=>h.IsTupleIter it a i) where
 mem:=by simp
 obj:=λi h st b hb=>by
  have e:b=it:=by simpa using hb
  subst e;obtain⟨o,e,c,d⟩:=st;exact⟨o,e,λv z=>by rw[d]at z;cases z⟩
 keep:=λi h h' st k=>st.at λo e=>k it (by simp) o e
 item:=by intro X hP hw hK hc i pins s σ H E I hf st hg;subst hP hw hK;obtain⟨xs,x,hq,hx⟩:=hg;obtain⟨its,rv,p,hz⟩:=I.tuple hq;obtain⟨u,hu,ru⟩:=rv.get hx;obtain⟨f0,f1,f2,f3,f4,f5⟩:=hf it (by simp);refine wpAny_pyNext_tuple_item st (show s.heap.IsTuple a its.toArray from p) (x:=u) (by simpa using hu) λh' st' sb=>?_;have I1:Inv X pins σ H { s with heap:=h' }:=I.turned (t':=s.toks) (λb o hb e=>(sb.2 b hb).trans e) f0 f1 f3 f4 f5;obtain⟨o,e,c,d⟩:=id st';exact⟨u,rfl,wu (s:={ s with heap:=h' }) e c d (by decide) ⟨x,H,I1,ru,⟨rfl,λys hy=>by rw[I.nK hy hq];exact hx⟩,st',λb hb=>(hf b hb).1⟩⟩
 done:=by intro X hP hw hK hc i pins s σ H E I hf st hg;subst hP hw hK;obtain⟨xs,hq,hx⟩:=hg;obtain⟨its,rv,p,hz⟩:=I.tuple hq;obtain⟨f0,f1,f2,f3,f4,f5⟩:=hf it (by simp);have hl:=rv.length;exact wpAny_pyNext_tuple_end (I.ok.hd hc) st (show s.heap.IsTuple a its.toArray from p) (by simp;omega) λh' eb=>⟨rfl,I.turned (t':=s.toks) (λb o hb e=>eb b o hb e) f0 f1 f3 f4 f5⟩
 self:=λ_ _ _ _ _ st h=>wpAny_pyIter_tupleiter st h
theorem HK{P:Program}{w:World}{K:Frag}{tg:Expr}(it:Addr)(lo:Int)(n:Nat):Turn P w K tg (Uq lo n) [it] it (λi h=>IsRangeIter h it (lo+(i:Nat)*1) ((n:Int)-(i:Nat)) 1) where
 mem:=by simp
 obj:=λi h st b hb=>by
  have e:b=it:=by simpa using hb
  subst e;exact⟨_,st,λv z=>by have z':Data.fields _=Data.cell v:=z;cases z'⟩
 keep:=λi h h' st k=>k it (by simp) _ st
 item:=by intro X hP hw hK hc i pins s σ H E I hf st hg;subst hP hw hK;obtain⟨f0,f1,f2,f3,f4,f5⟩:=hf it (by simp);have W:=Walks.range (prog:=X.prog) (w:=X.w) (I.ok.hd hc) it lo 1 n;refine W.item i s _ _ hg st λv h' tk hv st' kk=>?_;obtain⟨t,rfl⟩:=hv;have I1:Inv X pins σ H { s with heap:=h',toks:=tk }:=I.turned (λb o hb e=>kk b o (by simpa using hb) e) f0 f1 f3 f4 f5;refine⟨_,rfl,wu (s:={ s with heap:=h',toks:=tk }) (n:="range_iterator") st' rfl rfl (by decide) ⟨.int (lo+i),H,I1,⟨t,?_⟩,⟨rfl,rfl⟩,st',λb hb=>(hf b hb).1⟩⟩;rw[Int.mul_one]
 done:=by intro X hP hw hK hc i pins s σ H E I hf st hg;subst hP hw hK;obtain⟨f0,f1,f2,f3,f4,f5⟩:=hf it (by simp);exact wpAny_pyNext_range_end (I.ok.hd hc) st (by have:n<=i:=hg;omega) λh' eb=>⟨rfl,I.turned (t':=s.toks) (λb o hb e=>eb b o hb e) f0 f1 f3 f4 f5⟩
 self:=λ_ _ _ _ _ st h=>wpAny_pyIter_rangeiter st h
section
variable{X:Cx}{tg:Expr}
theorem fC{pins:M0}{σ:St}{H:Hp}{s:Shared}{R:It->Hp->Prop}{E:N0}{lo hi:Int}{t u v:Tok}{tk:Nat}(I:Inv X pins σ H s)(h1:-(2^62)<=lo)(h2:lo<2^62)(h3:-(2^62)<=hi)(h4:hi<2^62)(q:R (Uq lo (hi-lo).toNat) H):wpAny (model X.prog X.w) X.A (pyIter (.ref s.heap.objs.size)) (PIE X pins σ tg R) E { s with heap:=s.heap.push { cls:=.type "range",data:=.fields #[.int lo t,.int hi u,.int 1 v] },toks:=tk }:=by
 refine wpAny_pyIter_range (IsRange.new ..) (small_one h1 h2 h3 h4) ?_;have I1:Inv X pins σ H { s with heap:=s.heap.push { cls:=.type "range",data:=.fields #[.int lo t,.int hi u,.int 1 v] },toks:=tk }:=I.kept λb o e=>B1 _ e;refine⟨(s.heap.push { cls:=.type "range",data:=.fields #[.int lo t,.int hi u,.int 1 v] }).objs.size,[(s.heap.push { cls:=.type "range",data:=.fields #[.int lo t,.int hi u,.int 1 v] }).objs.size],_,_,H,rfl,
  I1.kept (t':=tk) λb o e=>B1 _ e,HK _ lo (hi-lo).toNat,?_,λb hb=>?_,q⟩
 .have e1:lo+((0:Nat):Int)*1=lo:=by simp
  have e2:(((hi-lo).toNat:Nat):Int)-((0:Nat):Int)=Builtin.Range.rangeSize lo hi 1:=by rw[rangeSize_one];split<;>omega
  show IsRangeIter _ _ (lo+((0:Nat):Int)*1) ((((hi-lo).toNat:Nat):Int)-((0:Nat):Int)) 1;rw[e1,e2];exact Z1 _ rfl
 .have e:b=(s.heap.push { cls:=.type "range",data:=.fields #[.int lo t,.int hi u,.int 1 v] }).objs.size:=by simpa using hb
  subst e;exact I1.Qo (O1 _) (I1.Va.fresh (O1 _))
noncomputable def IK(ta:TA):TI:=λσ H R=>ta σ H λvs H1=>∃j:Int,vs=[.int j]/\-(2^62)<=j/\j<2^62/\R (Uq 0 j.toNat) H1
noncomputable def bn(ta:TA):TI:=λσ H R=>ta σ H λvs H1=>∃i j:Int,vs=[.int i,.int j]/\(-(2^62)<=i/\i<2^62/\-(2^62)<=j/\j<2^62)/\R (Uq i (j-i).toNat) H1
theorem JK{a:Expr}{ta:TA}{p pos:Pos}(hg:Gl X "range")(hm:X.mg "range"=none)(ha:PA X [a] ta)(hs:starEach [a] X.env=[(false,eval a X.env)]:=by rfl):PI X tg (.Call (.Name "range" p) [a] [] pos) (IK ta):=by
 intro pins s σ H R I h;refine Call_ (Ri I hg hm Zaf (N4 (Ua (ha pos pins s σ H _ I h) λus s1 ⟨vs,H1,I1,r1,q1⟩=>?_) hs rfl));obtain⟨j,e,q1,q2,q⟩:=q1;subst e;cases r1 with
 |cons r rr=>cases rr;obtain⟨t,rfl⟩:=r;exact call_range_1 (fC I1 (by omega) (by omega) q1 q2 (by simpa using q))
theorem LK{a b:Expr}{ta:TA}{p pos:Pos}(hg:Gl X "range")(hm:X.mg "range"=none)(ha:PA X [a,b] ta)(hs:starEach [a,b] X.env=[(false,eval a X.env),(false,eval b X.env)]:=by rfl)(Hl:starEach [b] X.env=[(false,eval b X.env)]:=by rfl):PI X tg (.Call (.Name "range" p) [a,b] [] pos) (bn ta):=by
 intro pins s σ H R I h;refine Call_ (Ri I hg hm Zaf (N4 (Ua (ha pos pins s σ H _ I h) λus s1 ⟨vs,H1,I1,r1,q1⟩=>?_) (by rw[hs,Hl]) (by rw[Hl];rfl)));obtain⟨i,j,e,⟨q1,q2,q3,q4⟩,q⟩:=q1;subst e;cases r1 with
 |cons r rr=>
  cases rr with
  |cons r' rr=>cases rr;obtain⟨t,rfl⟩:=r;obtain⟨t',rfl⟩:=r';exact call_range_2 (fC I1 q1 q2 q3 q4 q)
noncomputable def MK(wi:TI)(g:TG)(tb:TS):TS:=λD σ H=>wi σ H λJ H1=>∃W:Nat->Nat->St->Hp->Prop,(∃m,W 0 m σ H1)/\∀i m σ H,W i m σ H->
 (J.stop i H/\D.nx σ H)\/(J.go i H/\∃N:St->Hp->Prop,(∀σ' H',N σ' H'->∃m',m'<m/\W (i+1) m' σ' H')/\∀x H',J.tj i H x H'->g x σ H' λσ2 H2=>tb { D with nx:=N,ct:=N,bk:=D.nx } σ2 H2)
noncomputable def uj(fp:R0)(h:Heap):M0:=fp.filterMap λb=>(h.get? b).map λo=>(b,o)
theorem Ro{fp:R0}{h:Heap}{b:Addr}{o:Obj}(hb:b∈fp)(e:h.get? b=some o):(b,o)∈uj fp h:=Zam.mpr ⟨b,hb,by rw[e];rfl⟩
theorem NK{fp:R0}{h:Heap}{p:Addr×Obj}(hp:p∈uj fp h):p.1∈fp/\h.get? p.1=some p.2:=by
 obtain⟨b,hb,e⟩:=Zam.mp hp;cases q:h.get? b with
 |none=>rw[q]at e;cases e
 |some o=>rw[q]at e;have e':(b,o)=p:=B3 e;subst e';exact⟨hb,q⟩
theorem Inv.pinned{pins:M0}{σ:St}{H:Hp}{s:Shared}{fp:R0}(I:Inv X pins σ H s)(hf:∀b∈fp,qh X pins H b)(ho:∀b∈fp,∃o,s.heap.get? b=some o/\∀v,o.data≠.cell v):Inv X (pins++uj fp s.heap) σ H s:=
 I.Sq λp hp=>(G2.mp hp).elim (λz=>I.pin p (X1 _ z)) λz=>by obtain⟨hb,e⟩:=NK z;obtain⟨f0,f1,f2,_⟩:=hf p.1 hb;obtain⟨o,e',d⟩:=ho p.1 hb;rw[e]at e';cases e';exact⟨e,f0,f1,f2,d⟩
theorem Inv.yk{pins pl:M0}{σ:St}{H:Hp}{s:Shared}(I:Inv X (pins++pl) σ H s):Inv X pins σ H s:=I.Sq λp hp=>I.pin p (X1 _ (Y2 _ hp))
theorem OK{iter:Expr}{body:List Stmt}{wi:TI}{g:TG}{tb:TS}{pos:Pos}(hp:PassesOwn (model X.prog X.w) X.A X.env X.xe)(hc:X.calm=true)(hi:PI X tg iter wi)(hg:PG X tg g)(hb:Pe X body tb)(hs:∀x,foldedSetIterable iter X.env x=pure x:=by intro _;rfl):PS X (.For tg iter body [] pos) (MK wi g tb):=by
 intro pins s σ H D I h;refine wpAny_For (Ua (hi pins s σ H _ I h) λv s1 h1=>Ua h1 λitv s2 h2=>?_) hs;obtain⟨it,fp,tn,J,H2,e,I2,T,st2,f2,W,⟨m0,w0⟩,turn⟩:=h2;subst e;have stat:∀{H':Hp},(∀b∈fp,H' b=none)->∀b∈fp,qh X pins H' b:=λhn b hb=>⟨hn b hb,(f2 b hb).2⟩
 refine Zaa (λn s'=>∃i σ' H',Inv X pins σ' H' s'/\tn i s'.heap/\(∀b∈fp,H' b=none)/\W i n σ' H') ?_ m0 ⟨0,σ,H2,I2,st2,λb hb=>(f2 b hb).1,w0⟩;rintro n s3 ⟨i,σ3,H3,I3,st3,Vq,w3⟩;rcases turn i n σ3 H3 w3 with⟨stop,qn⟩|⟨go,N,hN,step⟩
 .refine O3 hp (Ua (T.done X rfl rfl rfl hc i pins s3 σ3 H3 X.xe I3 (stat Vq) st3 stop) λr s4 ⟨hr,I4⟩=>?_);subst hr;exact Q5 ⟨σ3,H3,I4,qn⟩
 .refine O3 hp (Ua (T.item X rfl rfl rfl hc i pins s3 σ3 H3 X.xe I3 (stat Vq) st3 go) λr s4 ⟨u,hr,h4⟩=>?_);subst hr;refine O3 hp (Ua h4 λ_ s5 ⟨x,H5,I5,r5,y5,vj,So⟩=>?_);have Ux:=I5.pinned (stat So) (T.obj _ _ vj);refine O3 hp (Ua (hg _ s5 σ3 H5 x u _ Ux r5 (step x H5 y5)) λ_ s6 ⟨cn,H6,I6,q6⟩=>?_);refine O3 hp (Ua (hb _ s6 cn H6 _ I6 q6) λf s7 q7=>?_);have again:∀{Ie:St} {H7:Hp},Inv X (pins++uj fp s5.heap) Ie H7 s7->N Ie H7->∃m,m<n/\∃i σ' H',Inv X pins σ' H' s7/\tn i s7.heap/\(∀b∈fp,H' b=none)/\W i m σ' H':=λ{Ie H7} I7 n7=>by
   obtain⟨m',hm,w7⟩:=hN Ie H7 n7;refine⟨m',hm,i+1,Ie,H7,I7.yk,T.keep _ _ _ vj λb hb o e=>(I7.pin (b,o) (X1 _ (X1 _ (Ro hb e)))).1,λb hb=>?_,w7⟩;obtain⟨o,e,d⟩:=T.obj _ _ vj b hb;exact(I7.pin (b,o) (X1 _ (X1 _ (Ro hb e)))).2.1
  cases f with
  |next=>obtain⟨Ie,H7,I7,n7⟩:=q7;exact again I7 n7
  |cont=>obtain⟨Ie,H7,I7,n7⟩:=q7;exact again I7 n7
  |brk=>obtain⟨Ie,H7,I7,q7⟩:=q7;exact⟨Ie,H7,I7.yk,q7⟩
  |ret v=>obtain⟨x7,Ie,H7,I7,r7,q7⟩:=q7;exact⟨x7,Ie,H7,I7.yk,r7,q7⟩
end
noncomputable abbrev R2:=V->V->Hp->VK->Prop
noncomputable def Qd(X:Cx)(f:Value->Value->Sem Value)(r:R2):Prop:=
 ∀(pins:M0) (s:Shared) (σ:St) (H:Hp) (x y:V) (v u:Value) (Q:VK),Inv X pins σ H s->RelV x v->RelV y u->r x y H Q->
  wpAny (model X.prog X.w) X.A (f v u) (EP X pins σ Q) X.xe s
noncomputable def Vx(X:Cx)(f:Value->Sem Value)(r:V->Hp->VK->Prop):Prop:=
 ∀(pins:M0) (s:Shared) (σ:St) (H:Hp) (x:V) (v:Value) (Q:VK),Inv X pins σ H s->RelV x v->r x H Q->
  wpAny (model X.prog X.w) X.A (f v) (EP X pins σ Q) X.xe s
noncomputable def Ze(X:Cx)(f:Value)(r:U0->Hp->VK->Prop):Prop:=
 ∀(pins:M0) (s:Shared) (σ:St) (H:Hp) (xs:U0) (us:P0) (Q:VK),Inv X pins σ H s->Vals xs us->r xs H Q->
  wpAny (model X.prog X.w) X.A (call f us) (EP X pins σ Q) X.xe s
noncomputable def xu(r:R2)(ta tb:TE):TE:=λσ H Q=>ta σ H λx H1=>tb σ H1 λy H2=>r x y H2 Q
noncomputable def QK(r:V->Hp->VK->Prop)(ta:TE):TE:=λσ H Q=>ta σ H λx H1=>r x H1 Q
noncomputable def rI(C:Int->Int->Prop)(g:Int->Int->V):R2:=λx y H Q=>∃i j,x=.int i/\y=.int j/\C i j/\Q (g i j) H
noncomputable def zk(g:Int->Int->V):R2:=λx y H Q=>∃i j,x=.int i/\y=.int j/\Q (g i j) H
noncomputable def rU(g:Int->V):V->Hp->VK->Prop:=λx H Q=>∃i,x=.int i/\Q (g i) H
section
variable{X:Cx}{a b c:Expr}{ta tb tc:TE}{pos:Pos}
theorem Wx(ha:PE X a ta)(hb:PE X b tb){pins:M0}{s:Shared}{σ:St}{H:Hp}{R:V->V->Hp->Prop}(I:Inv X pins σ H s)(h:ta σ H λx H1=>tb σ H1 λy H2=>R x y H2){Q:N0}{f:Value->Value->Sem Value}(hf:∀v u s2 x y H2,Inv X pins σ H2 s2->RelV x v->RelV y u->R x y H2->wpAny (model X.prog X.w) X.A (f v u) Q X.xe s2):wpAny (model X.prog X.w) X.A (eval a X.env) (λv s₁=>wpAny (model X.prog X.w) X.A (eval b X.env) (λu s₂=>wpAny (model X.prog X.w) X.A (f v u) Q X.xe s₂) X.xe s₁) X.xe s:=by refine Ua (ha pins s σ H _ I h) λv s1 ⟨x,H1,I1,r1,q1⟩=>?_;refine Ua (hb pins s1 σ H1 _ I1 q1) λu s2 ⟨y,H2,I2,r2,q2⟩=>?_;exact hf v u s2 x y H2 I2 r1 r2 q2
theorem Xx{op:Operator}{r:R2}(ho:Qd X (binaryOp op) r)(ha:PE X a ta)(hb:PE X b tb):PE X (.BinOp a op b pos) (xu r ta tb):=by intro pins s σ H Q I h;exact wpAny_BinOp (Wx ha hb I h λv u s2 x y H2 I2 rx ry q=>ho pins s2 σ H2 x y v u Q I2 rx ry q)
theorem RK{op:UnaryOp}{r:V->Hp->VK->Prop}(ho:Vx X (unaryOp op) r)(ha:PE X a ta):PE X (.UnaryOp op a pos) (QK r ta):=by intro pins s σ H Q I h;exact UnaryOp_ (Ua (ha pins s σ H _ I h) λv s1 ⟨x,H1,I1,r1,q1⟩=>ho pins s1 σ H1 x v Q I1 r1 q1)
theorem yu{f:Value->Value->Sem Value}{C:Int->Int->Prop}{g:Int->Int->Int}(rule:∀(i j:Int) (t u:Tok) (s:Shared) (Q:N0) (E:N0),C i j->Q (.int (g i j) s.toks) { s with toks:=s.toks+1 }->wpAny (model X.prog X.w) X.A (f (.int i t) (.int j u)) Q E s):Qd X f (rI C λi j=>.int (g i j)):=by intro pins s σ H x y v u Q I rx ry h;obtain⟨i,j,rfl,rfl,hc,q⟩:=h;obtain⟨t,rfl⟩:=rx;obtain⟨t',rfl⟩:=ry;exact rule i j t t' s _ _ hc ⟨.int (g i j),H,I.tok _,⟨_,rfl⟩,q⟩
theorem gC{f:Value->Value->Sem Value}{g:Int->Int->Int}(rule:∀(i j:Int) (t u:Tok) (s:Shared) (Q:N0) (E:N0),Q (.int (g i j) s.toks) { s with toks:=s.toks+1 }->wpAny (model X.prog X.w) X.A (f (.int i t) (.int j u)) Q E s):Qd X f (zk λi j=>.int (g i j)):=by intro pins s σ H x y v u Q I rx ry h;obtain⟨i,j,rfl,rfl,q⟩:=h;obtain⟨t,rfl⟩:=rx;obtain⟨t',rfl⟩:=ry;exact rule i j t t' s _ _ ⟨.int (g i j),H,I.tok _,⟨_,rfl⟩,q⟩
theorem Yx{f:Value->Value->Sem Value}{g:Int->Int->Bool}(rule:∀(i j:Int) (t u:Tok) (s:Shared) (Q:N0) (E:N0),Q (.bool (g i j)) s->wpAny (model X.prog X.w) X.A (f (.int i t) (.int j u)) Q E s):Qd X f (zk λi j=>.bl (g i j)):=by intro pins s σ H x y v u Q I rx ry h;obtain⟨i,j,rfl,rfl,q⟩:=h;obtain⟨t,rfl⟩:=rx;obtain⟨t',rfl⟩:=ry;exact rule i j t t' s _ _ ⟨.bl (g i j),H,I,rfl,q⟩
noncomputable def SK(i j:Int):Prop:=0<j/\j<1073741824
noncomputable def TK(i j:Int):Prop:=0<=j/\j<=1000000/\i.natAbs<2^64
noncomputable def Zx(i j:Int):Prop:=(-(2^64)<i/\i<2^64)\/(-(2^64)<j/\j<2^64)
theorem Zx.ok{i j:Int}(h:Zx i j):IntMulOk i j:=by
 rcases h with⟨h1,h2⟩|⟨h1,h2⟩
 .exact .of_left (intBits_le_64 h1 h2)
 .exact .of_right (intBits_le_64 h1 h2)
theorem UK:Qd X (binaryOp .Add) (zk λi j=>.int (i+j)):=gC λ_ _ _ _ _ _ _ q=>add_int q
theorem WK:Qd X (binaryOp .Sub) (zk λi j=>.int (i-j)):=gC λ_ _ _ _ _ _ _ q=>sub_int q
theorem YK:Qd X (binaryOp .Mult) (rI Zx λi j=>.int (i*j)):=yu λ_ _ _ _ _ _ _ hc q=>mul_int q hc.ok
theorem ZK:Qd X (binaryOp .FloorDiv) (rI SK λi j=>.int (i/j)):=yu λi j _ _ _ _ _ hc q=>by have h1:(0:Int)<j:=hc.1;have h2:j<1073741824:=hc.2;exact floordiv_int (by omega) (by rw[Int.fdiv_eq_ediv_of_nonneg i (by omega)];exact q) (.inl (PyProof.noPylong_small (by omega)))
theorem aL:Qd X (binaryOp .Mod) (rI (λ_ j=>0<j) λi j=>.int (i%j)):=yu λi j _ _ _ _ _ hc q=>by have h1:(0:Int)<j:=hc;exact mod_int' (by omega) (by rw[Int.fmod_eq_emod_of_nonneg i (by omega)];exact q)
theorem bL:Qd X (binaryOp .Pow) (rI TK λi j=>.int (i^j.toNat)):=yu λ_ _ _ _ _ _ _ hc q=>pow_int_small hc.1 hc.2.1 hc.2.2 q
theorem cL{f:Value->Sem Value}{g:Int->Int}(rule:∀(i:Int) (t:Tok) (s:Shared) (Q:N0) (E:N0),Q (.int (g i) s.toks) { s with toks:=s.toks+1 }->wpAny (model X.prog X.w) X.A (f (.int i t)) Q E s):Vx X f (rU λi=>.int (g i)):=by intro pins s σ H x v Q I rx h;obtain⟨i,rfl,q⟩:=h;obtain⟨t,rfl⟩:=rx;exact rule i t s _ _ ⟨.int (g i),H,I.tok _,⟨_,rfl⟩,q⟩
theorem dL:Vx X (unaryOp .USub) (rU λi=>.int (-i)):=cL λ_ _ _ _ _ q=>neg_int q
end
section
variable{X:Cx}{a b c:Expr}{ta tb tc:TE}{pos:Pos}
theorem iC{pins:M0}{σ:St}{H:Hp}{s:Shared}{Q:VK}{k k':Bool}(I:Inv X pins σ H s)(q:Q (.bl k) H)(e:k=k'):EP X pins σ Q (.bool k') s:=by subst e;exact⟨.bl k,H,I,rfl,q⟩
theorem jC:Qd X (compareOp .Lt) (zk λi j=>.bl (decide (i<j))):=Yx λ_ _ _ _ _ _ _ q=>lt_int q
theorem kC:Qd X (compareOp .Gt) (zk λi j=>.bl (decide (j<i))):=Yx λ_ _ _ _ _ _ _ q=>gt_int q
theorem eL:Qd X (compareOp .GtE) (zk λi j=>.bl (decide (j<=i))):=Yx λ_ _ _ _ _ _ _ q=>ge_int q
theorem fL:Qd X (compareOp .Is) (λx y H Q=>y=.non/\Q (.bl (decide (x=.non))) H):=by
 intro pins s σ H x y v u Q I rx ry h;obtain⟨rfl,q⟩:=h;cases ry;refine is_none_gen (iC I q ?_);cases x<;>first
  |(cases rx;rfl)
  |(obtain⟨t,rfl⟩:=rx;rfl)
theorem gL:Qd X (compareOp .IsNot) (λx y H Q=>y=.non/\Q (.bl (!decide (x=.non))) H):=by
 intro pins s σ H x y v u Q I rx ry h;obtain⟨rfl,q⟩:=h;cases ry;refine isnot_none_gen (iC I q ?_);cases x<;>first
  |(cases rx;rfl)
  |(obtain⟨t,rfl⟩:=rx;rfl)
theorem Qd.or{f:Value->Value->Sem Value}{r r':R2}(h:Qd X f r)(h':Qd X f r'):Qd X f (λx y H Q=>r x y H Q\/r' x y H Q):=by
 intro pins s σ H x y v u Q I rx ry q;rcases q with q|q
 .exact h pins s σ H x y v u Q I rx ry q
 .exact h' pins s σ H x y v u Q I rx ry q
theorem wj(b:Expr){op:CmpOp}(h:op≠.In:=by decide)(h2:op≠.NotIn:=by decide):behindInMarks op b=false:=by
 have e1:(op==CmpOp.In)=false:=by cases op<;>first|rfl|exact absurd rfl h
 have e2:(op==CmpOp.NotIn)=false:=by cases op<;>first|rfl|exact absurd rfl h2
 cases b<;>simp[behindInMarks,e1,e2]
theorem iL{op:CmpOp}{r:R2}(ho:Qd X (compareOp op) r)(ha:PE X a ta)(hb:PE X b tb)(hm:behindInMarks op b=false):PE X (.Compare a [op] [b] pos) (xu r ta tb):=by intro pins s σ H Q I h;exact wpAny_Compare1 (Wx ha hb I h λv u s2 x y H2 I2 rx ry q=>ho pins s2 σ H2 x y v u Q I2 rx ry q) hm
noncomputable def jL(t:TE):TT:=λσ H Q=>t σ H λx H'=>∃k,x=.bl k/\Q k H'
theorem kL{op:CmpOp}{r:R2}(ho:Qd X (compareOp op) r)(ha:PE X a ta)(hb:PE X b tb)(hm:behindInMarks op b=false):PT X (.Compare a [op] [b] pos) (jL (xu r ta tb)):=by
 intro pins s σ H Q I h;refine O9 (Ua (ha pins s σ H _ I h) λv s1 ⟨x,H1,I1,r1,q1⟩=>Ua (hb pins s1 σ H1 _ I1 q1) λu s2 ⟨y,H2,I2,r2,q2⟩=>
  Ua (ho pins s2 σ H2 x y v u _ I2 r1 r2 q2) λc s3 ⟨z,H3,I3,r3,k,e,q3⟩=>?_) hm
 subst e;cases r3;exact G5 ⟨H3,I3,q3⟩
theorem Wq:(sizeLine:Nat)<2^63:=by rw[M3];decide
theorem vals1{x:V}{us:P0}(r:Vals [x] us):∃u,us=[u]/\RelV x u:=by
 cases r with
 |cons r1 r2=>cases r2;exact⟨_,rfl,r1⟩
theorem vals2{x y:V}{us:P0}(r:Vals [x,y] us):∃u w',us=[u,w']/\RelV x u/\RelV y w':=by
 cases r with
 |cons r1 r2=>
  cases r2 with
  |cons r3 r4=>cases r4;exact⟨_,_,rfl,r1,r3⟩
theorem lL(hc:X.calm=true):Ze X (.builtin "max") (λxs H Q=>∃i j,xs=[.int i,.int j]/\Q (.int (if j>i then j else i)) H):=by
 intro pins s σ H xs us Q I r h;obtain⟨i,j,rfl,q⟩:=h;obtain⟨u,w',rfl,⟨t,rfl⟩,⟨t',rfl⟩⟩:=vals2 r;refine max_two_ints (I.ok.hd hc) λh' tk k=>⟨_,H,I.kept k,?_,q⟩
 by_cases hj:j>i
 .rw[Q1 hj,Q1 hj];exact⟨_,rfl⟩
 .rw[B2 hj,B2 hj];exact⟨_,rfl⟩
theorem mL:Ze X (.type "int") (λxs H Q=>(∃i,xs=[.int i]/\Q (.int i) H)\/∃k,xs=[.bl k]/\Q (.int (if k then 1 else 0)) H):=by
 intro pins s σ H xs us Q I r h;rcases h with⟨i,rfl,q⟩|⟨k,rfl,q⟩
 .obtain⟨u,rfl,t,rfl⟩:=vals1 r;exact call_int_int ⟨.int i,H,I,⟨_,rfl⟩,q⟩
 .obtain⟨u,rfl,r1⟩:=vals1 r;cases r1;exact call_int_bool ⟨.int (if k then 1 else 0),H,I.tok _,⟨_,rfl⟩,q⟩
theorem nL:Ze X (.type "str") (λxs H Q=>∃i,xs=[.int i]/\i.natAbs.log2<1920/\Q (.str (toString i)) H):=by intro pins s σ H xs us Q I r h;obtain⟨i,rfl,hz,q⟩:=h;obtain⟨u,rfl,t,rfl⟩:=vals1 r;exact PySem.P.str_of_int hz ⟨.str _,H,I.tok _,⟨_,rfl⟩,q⟩
end
theorem ui.some_of{v:V}{o:Option Value}(r:ui (some v) o):∃u,o=some u/\RelV v u:=by
 cases o with
 |none=>exact(show False from r).elim
 |some u=>exact⟨u,rfl,r⟩
structure Cls(K:Frag)(C:Addr):Prop where
 pg:plainGet K C Str.empty=true
 hd:PySem.W.hasDictIn K C=true
 po:PySem.W.plainOver K C=true
 sa:findIn K (.ref C) "__setattr__"=some (some (.builtin "object.__setattr__"))
theorem Cls.get{K:Frag}{C:Addr}(c:Cls K C)(f:Str):plainGet K C f=true:=c.pg
section
variable{X:Cx}{pins:M0}{σ:St}{H:Hp}{s:Shared}{a C dx:Addr}{fs:List (Str×V)}{f:Str}{v:V}{A:Around}{E:N0}
theorem Inv.made(I:Inv X pins σ H s):Inv X pins σ (upd (upd H s.heap.objs.size (.own (s.heap.objs.size+1))) (s.heap.objs.size+1) (.ins C s.heap.objs.size [])) { s with heap:=(s.heap.push emptyDict).push (instObj C s.heap.objs.size) }:=by
 have e1:(s.heap.push emptyDict).get? s.heap.objs.size=some emptyDict:=Z1 s.heap rfl;have e2:((s.heap.push emptyDict).push (instObj C s.heap.objs.size)).get? (s.heap.objs.size+1)=some (instObj C s.heap.objs.size):=by
  have:=Z1 (s.heap.push emptyDict) (o:=instObj C s.heap.objs.size) rfl
  rwa [X5]at this
 have e3:(s.heap.push emptyDict).Ns s.heap.objs.size (λ_=>none):=⟨emptyDict,#[],_,e1,rfl,(λe he=>absurd he (by simp)),λ_=>rfl⟩
 have I1:=I.laid (a:=s.heap.objs.size) (o:=.own (s.heap.objs.size+1)) (h':=s.heap.push emptyDict) (t':=s.toks) (λb u q=>B1 _ q) (O1 _) ⟨_,e1⟩;refine I1.laid (a:=s.heap.objs.size+1) (o:=.ins C s.heap.objs.size []) (t':=s.toks) (λb u q=>B1 _ q) (G9 (X5 _ _)) ?_;have ne:s.heap.objs.size≠s.heap.objs.size+1:=J2 (y8 _);refine⟨by rw[rb ne,Lb],V3 _,ne,e2,λ_=>none,(Heap.Ns1.of_empty e3).at λo q=>B1 _ q,λ_=>True.intro,λy hy=>absurd rfl hy⟩
end
structure rc(k:Nat)(A:Around):Prop where
 hd:A.handled=none
 dp:A.depth+3*k+5<recursionLimit
 un:A.units+16*k+200<cLine
theorem rc.mono{j k:Nat}{A:Around}(r:rc k A)(h:j<=k):rc j A:=⟨r.hd,by have:=r.dp;omega,by have:=r.un;omega⟩
theorem rc.deeper{k:Nat}{A:Around}(r:rc (k+1) A)(env:Env):rc k (A.deeper env):=
 ⟨r.hd,by have:=r.dp;show A.depth+1+3*k+5<_;omega,by have:=r.un;show A.units+3+16*k+200<_;omega⟩
theorem rc.in1{k:Nat}{A:Around}(r:rc (k+1) A):rc k A.in1:=
 ⟨r.hd,by have:=r.dp;show A.depth+3*k+5<_;omega,by have:=r.un;show A.units+1+16*k+200<_;omega⟩
theorem rc.depth{k:Nat}{A:Around}(r:rc k A):A.depth<recursionLimit:=by have:=r.dp;omega
theorem rc.units{k:Nat}{A:Around}(r:rc k A):A.units+64<cLine:=by have:=r.un;omega
noncomputable def ay:TA:=λ_ H Q=>Q [] H
noncomputable def lC(ta:TE)(tr:TA):TA:=λσ H Q=>ta σ H λx H1=>tr σ H1 λxs H2=>Q (x::xs) H2
section
variable{X:Cx}{e:Expr}{es:T0}{te:TE}{t:TA}{pos:Pos}
theorem Sd:PA X [] ay:=λ_ _ _ _ H Q I h=>d7 ⟨[],H,I,.nil,h⟩
theorem jd(ha:PE X e te)(hr:PA X es t)(hs:starEach (e::es) X.env=(false,eval e X.env)::starEach es X.env:=by rfl):PA X (e::es) (lC te t):=by intro pos pins s σ H Q I h;rw[hs];show wpAny _ _ (spliced ((false,eval e X.env)::backTo pos (starEach es X.env))) _ _ s;refine j6 (Ua (ha pins s σ H _ I h) λu s1 ⟨x,H1,I1,r1,q1⟩=>?_);exact Ua (hr pos pins s1 σ H1 _ I1 q1) λus s2 ⟨xs,H2,I2,r2,q2⟩=>⟨x::xs,H2,I2,.cons r1 r2,q2⟩
noncomputable def pL(t:TA):TE:=λσ H Q=>t σ H λxs H1=>xs.length<=sizeLine/\∀p,H1 p=none->Q (.ref p) (upd H1 p (.tup xs))
noncomputable def qL(t:TA):TE:=λσ H Q=>t σ H λxs H1=>xs.length<=sizeLine/\∀p,H1 p=none->Q (.ref p) (upd H1 p (.lst xs))
theorem rL{x1}(h:PA X es t):PE X (.Tuple es x1 pos) (pL t):=by intro pins s σ H Q I hq;refine wpAny_Tuple_spliced (Ua (h pos pins s σ H _ I hq) λus s1 ⟨xs,H1,I1,r,z,q⟩=>⟨by rw[<-r.length];exact z,?_⟩);have hf:H1 s1.heap.objs.size=none:=I1.Va.fresh (O1 _);refine⟨.ref s1.heap.objs.size,upd H1 s1.heap.objs.size (.tup xs),I1.laid (t':=s1.toks) (λb u e=>B1 _ e) (O1 _) ?_,rfl,q _ hf⟩;exact⟨z,us,r,⟨_,Z1 _ rfl,rfl,_,rfl⟩⟩
theorem mC(h:PA X es t):PE X (.List es pos) (qL t):=by intro pins s σ H Q I hq;refine wpAny_List_spliced (Ua (h pos pins s σ H _ I hq) λus s1 ⟨xs,H1,I1,r,z,q⟩=>⟨by rw[<-r.length];exact z,?_⟩);have hf:H1 s1.heap.objs.size=none:=I1.Va.fresh (O1 _);refine⟨.ref s1.heap.objs.size,upd H1 s1.heap.objs.size (.lst xs),I1.laid (t':=s1.toks) (λb u e=>B1 _ e) (O1 _) ?_,rfl,q _ hf⟩;exact⟨z,us,0,r,Z1 _ rfl⟩
end
noncomputable abbrev Sp:=U0->Hp->VK->XK->Prop
noncomputable abbrev rh:=List Env->Hp->Shared->XK->N0
structure Ak(P:Program)(w:World)(K:Frag)(mg:O0)(base:Heap)(A:Around)(outer:List Env)(s:Shared)(H:Hp):Prop where
 frames:A.frames=some outer
 mod:Mod K mg base
 bs:∀b o,base.get? b=some o->s.heap.get? b=some o/\H b=none
 ph:base.objs.size<=s.heap.objs.size
 qg:s.heap.FunFrames base outer
 Qi:∀b∈frs outer,H b=none
 Va:Dd P w H s.heap
 bare:AllBare s.gens
noncomputable def CE(outer:List Env)(P:Program)(w:World)(H:Hp)(s:Shared)(Q:VK)(u:Value)(s':Shared):Prop:=
 ∃v H',s'.os=s.os/\AllBare s'.gens/\Un (frs outer) [] H H' s.heap s'.heap/\Dd P w H' s'.heap/\RelV v u/\Q v H'
noncomputable def CR(CX:rh)(outer:List Env)(P:Program)(w:World)(H:Hp)(s:Shared)(Q:VK)(E:XK)(r:Result)(s':Shared):Prop:=
 match r with
 |.ok (.ret u)=>CE outer P w H s Q u s'
 |.ok _=>False
 |.error e=>CX outer H s E e s'
structure Ce(P:Program)(w:World)(K:Frag)(mg:O0)(base:Heap)(CX:rh)(k:Nat)(f:Addr)(fd:FuncData)(ps:Q0)(sp:Sp):Prop where
 len:∀vs H Q E,sp vs H Q E->vs.length=ps.length
 run:∀(A:Around) (outer:List Env) (s:Shared) (H:Hp) (args:Args) (us:P0) (vs:U0) (Q:VK) (E:XK),rc k A->Ak P w K mg base A outer s H->BindsTo s fd args (ps.zip us)->Vals vs us->sp vs H Q E->
  codeAny (model P w) A (.call (.ref f) args) (CR CX outer P w H s Q E) s
theorem Ce.mono{P:Program}{w:World}{K:Frag}{mg:O0}{base:Heap}{CX:rh}{j k:Nat}{f:Addr}{fd:FuncData}{ps:Q0}{sp:Sp}(F:Ce P w K mg base CX j f fd ps sp)(h:j<=k):Ce P w K mg base CX k f fd ps sp:=⟨F.len,λA outer s H args us vs Q E hr=>F.run A outer s H args us vs Q E (hr.mono h)⟩
theorem Ce.imp{P:Program}{w:World}{K:Frag}{mg:O0}{base:Heap}{CX:rh}{k:Nat}{f:Addr}{fd:FuncData}{ps:Q0}{sp nC:Sp}(F:Ce P w K mg base CX k f fd ps sp)(h:∀vs H Q E,nC vs H Q E->sp vs H Q E):Ce P w K mg base CX k f fd ps nC:=
 ⟨λvs H Q E q=>F.len vs H Q E (h _ _ _ _ q),λA outer s H args us vs Q E hr he hb hv hs=>F.run A outer s H args us vs Q E hr he hb hv (h _ _ _ _ hs)⟩
theorem Ak.in1{P:Program}{w:World}{K:Frag}{mg:O0}{base:Heap}{A:Around}{outer:List Env}{s:Shared}{H:Hp}(e:Ak P w K mg base A outer s H):Ak P w K mg base A.in1 outer s H:=⟨e.frames,e.mod,e.bs,e.ph,e.qg,e.Qi,e.Va,e.bare⟩
section
variable{X:Cx}{pins:M0}{σ:St}{H:Hp}{s s':Shared}
theorem Inv.env0(I:Inv X pins σ H s):Ak X.prog X.w X.K X.mg X.base X.A X.stack s H:=
 ⟨I.ok.frames,I.ok.mod,I.bs,E3 I.ok.ph I.sz,I.stack,I.Nx,I.Va,I.bare⟩
theorem Inv.after{Q:VK}{u:Value}(I:Inv X pins σ H s)(h:CE X.stack X.prog X.w H s Q u s'):EP X pins σ Q u s':=by obtain⟨v,H',os,bare,un,Va,r,q⟩:=h;obtain⟨hh,g,d,t,os'⟩:=s';obtain rfl:os'=s.os:=os;exact⟨v,H',I.call (h':=hh) (g':=g) (d':=d) (t':=t) (ch:=[]) un Va bare (λb z=>absurd z (by simp)),r,q⟩
end
noncomputable def pC(sp:Sp)(xj:U0)(E:XK)(t:TA):TE:=λσ H Q=>t σ H λvs H1=>sp (vs++xj) H1 Q E
noncomputable def Binds(K:Frag)(fd:FuncData)(ps:Q0)(ds:P0):Prop:=
 ∀(s:Shared) (us:P0),K.In s.heap->(us++ds).length=ps.length->BindsTo s fd ⟨us,[]⟩ (ps.zip (us++ds))
theorem Binds.all{K:Frag}{fd:FuncData}{ps:Q0}(h:∀us:P0,us.length=ps.length->bindArgs fd ⟨us,[]⟩=pure (ps.zip us)):Binds K fd ps []:=λs us _ hl=>by rw[d5]at hl |-;exact .of_eq (h us hl)
noncomputable def Passes(CX:rh)(X:Cx)(E:XK):Prop:=∀(pins:M0) (σ:St) (H:Hp) (s:Shared) (e:Value) (s':Shared),Inv X pins σ H s->CX X.stack H s E e s'->X.xe e s'
section
variable{X:Cx}{CX:rh}{k:Nat}{f C:Addr}{fd:FuncData}{ps:Q0}{sp:Sp}{xj:U0}{ds:P0}{E:XK}{x m:Str}{p pos apos:Pos}{e o:Expr}{es:T0}{ta:TE}{t:TA}
theorem qC{pins:M0}{σ:St}{H:Hp}{s:Shared}{Q:VK}{us:P0}{vs:U0}(F:Ce X.prog X.w X.K X.mg X.base CX k f fd ps sp)(hr:rc k X.A)(hb:Binds X.K fd ps ds)(hd:Vals xj ds)(hx:Passes CX X E)(I:Inv X pins σ H s)(r:Vals vs us)(h:sp (vs++xj) H Q E):wpAny (model X.prog X.w) X.A (call (.ref f) us) (EP X pins σ Q) X.xe s:=by
 have r2:Vals (vs++xj) (us++ds):=r.append hd;have hl:(us++ds).length=ps.length:=by rw[<-r2.length];exact F.len _ _ _ _ h
 refine B6 (Z5 (F.run X.A X.stack s H ⟨us,[]⟩ (us++ds) (vs++xj) Q E hr I.env0 (hb s us I.Jg hl) r2 h) λr s' hq=>?_);cases r with
 |error e=>exact hx pins σ H s e s' I hq
 |ok fl=>
  cases fl with
  |ret u=>exact I.after hq
  |next=>exact False.elim hq
  |brk=>exact False.elim hq
  |cont=>exact False.elim hq
theorem sL(F:Ce X.prog X.w X.K X.mg X.base CX k f fd ps sp)(hr:rc k X.A)(hg:Gl X x)(hm:X.mg x=some (.ref f))(hk:keepIn X.K (.ref f)=true)(hb:Binds X.K fd ps ds)(hd:Vals xj ds)(hx:Passes CX X E)(ha:PA X (e::es) t)(Vd:(x==("__debug__":Str))=false:=by decide)(he:starEach (e::es) X.env=(false,eval e X.env)::starEach es X.env:=by rfl)(Xe:(backTo pos (starEach es X.env)).any (·.1)=false:=by rfl):PE X (.Call (.Name x p) (e::es) [] pos) (pC sp xj E t):=by intro pins s σ H Q I h;refine X3 (Pl I hg hm ?_ Vd);refine callWith_K (h₀:=X.base) I.ok.mod.sj hk (Ua (ha pos pins s σ H _ I h) λus s1 ⟨vs,H1,I1,r,q⟩=>⟨I1.Jg,?_⟩) he Xe;exact qC F hr hb hd hx I1 r q
theorem tL(F:Ce X.prog X.w X.K X.mg X.base CX k f fd ps sp)(hr:rc k X.A)(hg:Gl X x)(hm:X.mg x=some (.ref f))(hk:keepIn X.K (.ref f)=true)(hb:Binds X.K fd ps ds)(hd:Vals xj ds)(hx:Passes CX X E)(Vd:(x==("__debug__":Str))=false:=by decide):PE X (.Call (.Name x p) [] [] pos) (pC sp xj E ay):=by intro pins s σ H Q I h;refine X3 (Pl I hg hm ?_ Vd);exact PySem.W.callWith_K0 I.Jg hk (qC (us:=[]) F hr hb hd hx I .nil h)
end
noncomputable def PK(X:Cx)(kws:List Keyword)(t:TA):Prop:=
 ∀(pos:Pos) (pins:M0) (s:Shared) (σ:St) (H:Hp) (Q:U0->Hp->Prop),Inv X pins σ H s->t σ H Q->wpAny (model X.prog X.w) X.A (evalAll ((backToKw pos (keywordEach kws X.env)).map (·.2))) (AP X pins σ Q) X.xe s
section
variable{X:Cx}{CX:rh}{k:Nat}{f C:Addr}{fd:FuncData}{ps ks:Q0}{sp:Sp}{E:XK}{x m:Str}{p pos apos kpos:Pos}{e o:Expr}{es:T0}{kws:List Keyword}{te ta:TE}{t tk:TA}{nm:Option Str}
theorem uL:PK X [] ay:=λ_ _ _ _ H Q I h=>wpAny_evalAll_nil ⟨[],H,I,.nil,h⟩
theorem vL(ha:PE X e te)(hr:PK X kws t):PK X (⟨nm,e,kpos⟩::kws) (lC te t):=by intro pos pins s σ H Q I h;show wpAny _ _ (evalAll ((do let v <-eval e X.env;standAt pos;pure v)::(backToKw pos (keywordEach kws X.env)).map (·.2))) _ _ s;refine wpAny_evalAll_cons (X0 (Ua (ha pins s σ H _ I h) λu s1 ⟨x,H1,I1,r1,q1⟩=>X0 (f8 (G1 ?_))));exact Ua (hr pos pins s1 σ H1 _ I1 q1) λus s2 ⟨xs,H2,I2,r2,q2⟩=>⟨x::xs,H2,I2,.cons r1 r2,q2⟩
variable{g:P0->P0->P0}{gV:U0->U0->U0}
end
structure yj(N P:Q0)(sc:Scope):Prop where
 kind:sc.kind=.function
 co:sc.isCoroutine=false
 gen:sc.isGenerator=false
 nd:N.Nodup
 pre:N.take P.length=P
 par:∀x∈P,sc.names.lookup x=some .local\/sc.names.lookup x=some .cell
 wL:∀y∈sc.names,y.2≠.free
theorem rC{kindOf:Str->Option NameKind}{x:Str}:∀{binds:List (Str×Value)} {m:O0},(∀v,(x,v)∉binds)->bindL kindOf binds m x=m x
 |[],_,_=>rfl
 |(n,v)::r,m,h=>by
  unfold bindL;rw[rC λw hw=>h w (M1 _ hw)];split
  .have:x≠n:=by rintro rfl;exact h v W1
   simp[this]
  .rfl
theorem sC{kindOf:Str->Option NameKind}{x:Str}:∀{binds:List (Str×Value)} {m:O0},(∀v,(x,v)∉binds)->bindC kindOf binds m x=m x
 |[],_,_=>rfl
 |(n,v)::r,m,h=>by
  unfold bindC;rw[sC λw hw=>h w (M1 _ hw)];split
  .rfl
  .have:x≠n:=by rintro rfl;exact h v W1
   simp[this]
theorem uC{kindOf:Str->Option NameKind}{x:Str}{v:Value}:∀{P:Q0} {vs:P0} {i:Nat} {m:O0},P.Nodup->P[i]?=some x->vs[i]?=some v->kindOf x=some .local->bindL kindOf (P.zip vs) m x=some v
 |[],_,_,_,_,h,_,_=>by simp at h
 |_::_,[],_,_,_,_,h,_=>by simp at h
 |p::P,w::vs,0,m,nd,h1,h2,hk=>by simp at h1 h2;subst h1;subst h2;show bindL kindOf ((p,w)::P.zip vs) m p=_;unfold bindL;rw[rC λv hv=>(T2.mp nd).1 (J8 hv).1,Q1 hk];simp
 |p::P,w::vs,i+1,m,nd,h1,h2,hk=>by show bindL kindOf ((p,w)::P.zip vs) m x=_;unfold bindL;exact uC (i:=i) (T2.mp nd).2 (by simpa using h1) (by simpa using h2) hk
theorem vC{kindOf:Str->Option NameKind}{x:Str}{v:Value}:∀{P:Q0} {vs:P0} {i:Nat} {m:O0},P.Nodup->P[i]?=some x->vs[i]?=some v->kindOf x≠some .local->bindC kindOf (P.zip vs) m x=some v
 |[],_,_,_,_,h,_,_=>by simp at h
 |_::_,[],_,_,_,_,h,_=>by simp at h
 |p::P,w::vs,0,m,nd,h1,h2,hk=>by simp at h1 h2;subst h1;subst h2;show bindC kindOf ((p,w)::P.zip vs) m p=_;unfold bindC;rw[sC λv hv=>(T2.mp nd).1 (J8 hv).1,B2 hk];simp
 |p::P,w::vs,i+1,m,nd,h1,h2,hk=>by show bindC kindOf ((p,w)::P.zip vs) m x=_;unfold bindC;exact vC (i:=i) (T2.mp nd).2 (by simpa using h1) (by simpa using h2) hk
noncomputable def start(N:Q0)(vs:U0):St:=vs.map some++List.replicate (N.length-vs.length) none
noncomputable def Kg(CX:rh)(P:Program)(w:World)(K:Frag)(mg:O0)(base:Heap)(N:Q0)(qual:Str)(scope:Scope)(f:Addr)(cd:Value)(A:Around)(outer:List Env)(s:Shared)(H:Hp)(E:XK):Cx where
 prog:=P
 w:=w
 K:=K
 mg:=mg
 base:=base
 A:=A.deeper (envOfC qual scope s.heap.objs.size f cd)
 N:=N
 s₀:=s
 H₀:=H
 env:=envOfC qual scope s.heap.objs.size f cd
 outer:=outer
 stack:=envOfC qual scope s.heap.objs.size f cd::outer
 ex:=[]
 calm:=true
 fn:=λ_=>true
 pn:=[]
 xe:=λe s'=>wpAny (model P w) (A.deeper (envOfC qual scope s.heap.objs.size f cd)) (leaving (envOfC qual scope s.heap.objs.size f cd) e) (λ_ s''=>CX outer H s E e s'') (λe' s''=>CX outer H s E e' s'') s'
theorem wC{sc:Scope}{n:Nat}{x:Str}(h:sc.names.lookup x=some .cell):∃c,(cellsFrom n sc.names []).lookup x=some c:=by have q:=cellsFrom_some sc.names n [] (.inl h);exact l7.mp q
theorem xC{CX:rh}{P:Program}{w:World}{K:Frag}{mg:O0}{base:Heap}{N ps:Q0}{qual:Str}{scope:Scope}{f:Addr}{cd:Value}{A:Around}{outer:List Env}{s s1:Shared}{H:Hp}{E:XK}{us:P0}{vs:U0}(S:yj N ps scope)(hd:A.handled=none)(e0:Ak P w K mg base A outer s H)(hl:vs.length=ps.length)(r:Vals vs us)(x:InCallC s s.heap.objs.size (bindL (envOfC qual scope s.heap.objs.size f cd).kindOf (ps.zip us) λ_=>none) (cellsFrom (s.heap.objs.size+1) scope.names []) (bindC (envOfC qual scope s.heap.objs.size f cd).kindOf (ps.zip us) λ_=>none) s1):Inv (Kg CX P w K mg base N qual scope f cd A outer s H E) [] (start N vs) H s1:=by
 have Xe:ps.length<=N.length:=by have:=p5 List.length S.pre;rw[B4]at this;omega
 obtain⟨h1,tk,rfl,hk⟩:=x.done;have Bk:∀b:Addr,b∉(Kg CX P w K mg base N qual scope f cd A outer s H E).ex:=λb z=>absurd (show b∈([]:R0)from z) (by simp);refine⟨⟨e0.mod,S.kind,rfl,rfl,O1 _,λy z c h1 h2=>?_,λy hy=>?_,λy c _ h=>?_,λ_=>hd,Z9 e0.frames,.inr ⟨rfl,rfl⟩,λb z=>absurd z (Bk b),e0.bs,e0.ph,λb _ _=>Bk b,λb z=>absurd z (Bk b),e0.qg,e0.Qi⟩,
  rfl,e0.bare,Un.kept hk,⟨_,x.toInCall.ns,λi y v h1 h2 h3=>?_⟩,λy c h=>⟨_,x.cell y c h⟩,e0.Va.fresh (O1 _),λy c h=>?_,λp hp=>absurd (show p∈([]:M0)from hp) (by simp),e0.Va.kept hk,?_⟩
 .exact name_of_addr x.apart (l4 h1) (l4 h2)
 .have hy:scope.names.lookup y=some .cell\/scope.names.lookup y=some .free:=hy;rcases hy with hy|hy
  .exact wC hy
  .exact absurd rfl (S.wL _ (l4 hy))
 .exact U6 (x.above y c (l4 h))
 .have hi:i<vs.length:=by
   unfold start at h2;by_cases hi:i<vs.length
   .exact hi
   .rw[X6 (by simpa using hi)]at h2;rw[P5]at h2;split at h2<;>cases h2
  have ha:vs[i]?=some v:=by
   unfold start at h2;rw[B5 (by simpa using hi),i3]at h2;cases e:vs[i]? with
   |none=>rw[e]at h2;cases h2
   |some a=>rw[e]at h2;cases h2;rfl
  obtain⟨u,hu,rv⟩:=r.get ha;have hp:ps[i]?=some y:=by rw[<-S.pre,List.getElem?_take_of_lt (by omega)];exact h1
  have yC:ps.Nodup:=by rw[<-S.pre];exact S.nd.sublist (List.take_sublist _ _)
  refine⟨u,rv,?_⟩;rcases S.par y (V2 hp)with k|k
  .exact .inl ⟨k,uC yC hp hu k⟩
  .obtain⟨c,e⟩:=wC (n:=s.heap.objs.size+1) k;refine .inr ⟨.inl k,c,e,?_⟩;have q:=x.cell y c e;rw[vC yC hp hu (by show scope.names.lookup y≠_;rw[k];decide)]at q;exact q
 .exact e0.Va.fresh (U6 (x.above y c (l4 h)))
 .unfold start;show _=N.length;rw[U2,Y0,W7];omega
theorem zC{CX:rh}{P:Program}{w:World}{K:Frag}{mg:O0}{base:Heap}{k:Nat}{f:Addr}{name qual:Str}{params:Arguments}{body:List Stmt}{scope:Scope}{dV kV doc pm cdv ct oc:Value}{an od:Option Addr}{osl:Array (Option Value)}{N ps:Q0}{sp:Sp}(lk:K.lookup f=some ⟨oc,od,.func (fnOf name qual params body scope dV kV doc pm an cdv ct),osl⟩)(Mb:codeIn K cdv qual=true)(S:yj N ps scope)(len:∀vs H Q E,sp vs H Q E->vs.length=ps.length)(sB:∀(A:Around) (outer:List Env) (s:Shared) (H:Hp) (vs:U0) (Q:VK) (E:XK),rc k (A.deeper (envOfC qual scope s.heap.objs.size f cdv))->sp vs H Q E->∃t,Pe (Kg CX P w K mg base N qual scope f cdv A outer s H E) body t/\t { nx:=λ_ H'=>Q .non H',rt:=Q } (start N vs) H):Ce P w K mg base CX (k+1) f (fnOf name qual params body scope dV kV doc pm an cdv ct) ps sp:=by
 refine⟨len,λA outer s H args us vs Q E hr e0 hb r Pm=>?_⟩;have hl:=len _ _ _ _ Pm;have KX:K.In s.heap:=e0.mod.sj.keeps λb o e=>(e0.bs b o e).1;have lim:s.heap.NoLimit:=e0.mod.nolimit.keeps λb o e=>(e0.bs b o e).1;have uB:∀y∈ps.zip us,scope.names.lookup y.1=some .local\/(scope.names.lookup y.1=some .cell/\((cellsFrom (s.heap.objs.size+1) scope.names []).lookup y.1).isSome=true):=λ⟨n,v⟩ hy=>by
  rcases S.par n (J8 hy).1 with q|q
  .exact .inl q
  .exact .inr ⟨q,cellsFrom_some _ _ _ (.inl q)⟩
 refine P9 hr.depth (KX _ _ lk) rfl S.co S.gen rfl (codeRec_of KX Mb) (hb _ _ _ _ ?_);refine P8 S.kind uB λenv he s1 x=>?_;subst he;refine⟨lim.keeps x.toInCall.keep,codeAny_func ?_⟩;obtain⟨t,ht,hq⟩:=sB A outer s H vs Q E (hr.deeper _) Pm;have I:Inv (Kg CX P w K mg base N qual scope f cdv A outer s H E) [] (start N vs) H s1:=xC S hr.hd e0 hl r x;refine K3 (ht [] s1 (start N vs) H _ I hq) (λfl s' hs=>?_) λe s' hs=>hs;have fin:∀{σ':St} {H':Hp} {v:V} {u:Value},Inv (Kg CX P w K mg base N qual scope f cdv A outer s H E) [] σ' H' s'->RelV v u->Q v H'->CE outer P w H s Q u s':=
  λ{σ' H' v u} J rv q=>⟨v,H',J.os,J.bare,J.base,J.Va,rv,q⟩
 cases fl with
 |ret u=>obtain⟨v,σ',H',J,rv,q⟩:=hs;exact fin J rv q
 |next=>obtain⟨σ',H',J,q⟩:=hs;exact fin (v:=V.non) (u:=Value.none) J rfl q
 |brk=>obtain⟨_,_,_,q⟩:=hs;exact False.elim q
 |cont=>obtain⟨_,_,_,q⟩:=hs;exact False.elim q
section
variable{X:Cx}{x:Str}{p pos:Pos}{e:Expr}{es:T0}{t:TA}{id T:String}{r:U0->Hp->VK->Prop}
noncomputable def AC(r:U0->Hp->VK->Prop)(t:TA):TE:=λσ H Q=>t σ H λvs H1=>r vs H1 Q
theorem Xq(hc:Ze X (.builtin id) r)(hg:Gl X x)(hm:X.mg x=none)(hv:bootBuiltins x=some (.builtin id))(ha:PA X (e::es) t)(hn:x≠"__name__":=by decide)(Vd:(x==("__debug__":Str))=false:=by decide)(he:starEach (e::es) X.env=(false,eval e X.env)::starEach es X.env:=by rfl)(Xe:(backTo pos (starEach es X.env)).any (·.1)=false:=by rfl):PE X (.Call (.Name x p) (e::es) [] pos) (AC r t):=by intro pins s σ H Q I h;refine X3 (Ri I hg hm hv ?_ hn Vd);exact D6 (Ua (ha pos pins s σ H _ I h) λus s1 ⟨vs,H1,I1,r1,q1⟩=>hc pins s1 σ H1 vs us Q I1 r1 q1) he Xe
theorem To(hc:Ze X (.type T) r)(hg:Gl X x)(hm:X.mg x=none)(hv:bootBuiltins x=some (.type T))(ha:PA X (e::es) t)(hn:x≠"__name__":=by decide)(Vd:(x==("__debug__":Str))=false:=by decide)(he:starEach (e::es) X.env=(false,eval e X.env)::starEach es X.env:=by rfl)(Xe:(backTo pos (starEach es X.env)).any (·.1)=false:=by rfl):PE X (.Call (.Name x p) (e::es) [] pos) (AC r t):=by intro pins s σ H Q I h;refine X3 (Ri I hg hm hv ?_ hn Vd);exact N4 (Ua (ha pos pins s σ H _ I h) λus s1 ⟨vs,H1,I1,r1,q1⟩=>hc pins s1 σ H1 vs us Q I1 r1 q1) he Xe
end
end L2
namespace HT
section
variable{prog:Program}{w:World}{A:Around}{E:N0}{s:Shared}
noncomputable def Fb(n d:Nat):Option Int->Nat
 |none=>d
 |some v=>if v<0 then(v+(n:Int)).toNat else min v.toNat n
theorem xL(n d:Nat)(hd:d<=n)(o:Option Int):Fb n d o<=n:=by
 cases o with
 |none=>exact hd
 |some v=>
  show(if v<0 then(v+(n:Int)).toNat else min v.toNat n)<=n;by_cases hv:v<0
  .rw[Q1 hv];omega
  .rw[B2 hv];exact Nat.min_le_right _ _
theorem BC(v:Int)(n d:Nat):(if v<0 then max (v+(n:Int)) 0 else min v (n:Int))=((Fb n d (some v):Nat):Int):=by
 show(if v<0 then max (v+(n:Int)) 0 else min v (n:Int))=(((if v<0 then(v+(n:Int)).toNat else min v.toNat n):Nat):Int);by_cases hv:v<0
 .simp only[Q1 hv];omega
 .simp only[B2 hv];omega
theorem yL(lo hi:Option Int)(n:Nat):Builtin.Slice.sliceAdjust lo hi 1 (n:Int)=(((Fb n 0 lo:Nat):Int),((Fb n n hi:Nat):Int)):=by
 have h1:¬((1:Int)<0):=by omega
 unfold Builtin.Slice.sliceAdjust;simp only[h1,r6];refine Prod.ext ?_ ?_
 .cases lo with
  |none=>rfl
  |some v=>exact BC v n 0
 .cases hi with
  |none=>rfl
  |some v=>exact BC v n n
theorem zL(i j:Nat):Builtin.Slice.slicePlaces (i:Int) (j:Int) 1=j-i:=by
 unfold Builtin.Slice.slicePlaces;have h1:(1:Int)>0:=by omega
 simp only[h1,M6,Int.ediv_one];split<;>omega
theorem CC{v:Value}{o:Option Int}{Q:Option Int->Shared->Prop}(p:IsPart v o)(h:Q o s):wpAny (model prog w) A (Builtin.Slice.slicePartIndex v) Q E s:=by
 cases p with
 |none=>exact slicePart_none h
 |int i t=>exact slicePart_int h
theorem AL{sl:Addr}{vl vu:Value}{lo hi:Option Int}{n:Nat}{Q:Int×Int×Nat->Shared->Prop}(hs:s.heap.IsSliceOf sl vl vu .none)(pl:IsPart vl lo)(pu:IsPart vu hi)(h:Q (((Fb n 0 lo:Nat):Int),1,Fb n n hi-Fb n 0 lo) s):wpAny (model prog w) A (Builtin.Slice.sliceApplied (.ref sl) (pure (n:Int))) Q E s:=by obtain⟨os,fk,Xw,Yw⟩:=id hs;unfold Builtin.Slice.sliceApplied Builtin.Slice.sliceFields;refine X0 (X0 (l5 fk Yw (x:=vl) rfl (X0 (l5 fk Yw (x:=vu) rfl (X0 (l5 fk Yw (x:=.none) rfl (G1 ?_)))))));refine X0 (slicePart_none ?_);show wpAny _ _ (if((1:Int)==0)=true then _ else _) _ _ s;rw[B2 (by decide)];refine X0 (CC pl (X0 (CC pu (X0 (G1 ?_)))));show wpAny _ _ (match Builtin.Slice.sliceAdjust lo hi 1 (n:Int)with|(lo,hi)=>pure (lo,(1:Int),Builtin.Slice.slicePlaces lo hi 1)) _ _ s;rw[yL lo hi n];show wpAny _ _ (pure (((Fb n 0 lo:Nat):Int),(1:Int),Builtin.Slice.slicePlaces ((Fb n 0 lo:Nat):Int) ((Fb n n hi:Nat):Int) 1)) _ _ s;rw[zL];exact G1 h
theorem BL(xs:Array Value)(i k:Nat):((List.range k).filterMap λ(m:Nat)=>xs[((i:Int)+(m:Int)*1).toNat]?).toArray=((xs.toList.drop i).take k).toArray:=by
 have e:(λ(m:Nat)=>xs[((i:Int)+(m:Int)*1).toNat]?)=λm=>xs[i+m]?:=by
  funext m;have:((i:Int)+(m:Int)*1).toNat=i+m:=by omega
  rw[this]
 rw[e];have:=pick_run xs i k;rw[List.filterMap_map]at this;have e2:((λx=>xs[x]?)∘λx=>i+x)=λm=>xs[i+m]?:=rfl;rw[e2]at this;rw[this]
theorem CL{t sl:Addr}{items:Array Value}{vl vu:Value}{lo hi:Option Int}{Q:N0}(ht:IsTup s.heap t items)(hs:s.heap.IsSliceOf sl vl vu .none)(pl:IsPart vl lo)(pu:IsPart vu hi)(hw:¬(Fb items.size 0 lo=0/\Fb items.size items.size hi=items.size))(h:Q (.ref s.heap.objs.size) { s with heap:=s.heap.push { cls:=.type "tuple",data:=.seq ((items.toList.drop (Fb items.size 0 lo)).take (Fb items.size items.size hi-Fb items.size 0 lo)).toArray } })(hsz:items.size<=sizeLine):wpAny (model prog w) A (getItem (.ref t) (.ref sl)) Q E s:=by
 have zu:sizeOk (.seq ((items.toList.drop (Fb items.size 0 lo)).take (Fb items.size items.size hi-Fb items.size 0 lo)).toArray):=by show((items.toList.drop (Fb items.size 0 lo)).take (Fb items.size items.size hi-Fb items.size 0 lo)).toArray.size<=sizeLine;rw[R1,B4,A8,R4];omega
 have hj:Fb items.size items.size hi<=items.size:=xL _ _ (O1 _) hi;obtain⟨os,fk,Xw,Yw⟩:=id hs;have hTs:s.TypeIs (.ref sl) "slice":=⟨os,fk,Xw⟩
 unfold getItem
 try with_reducible refine Y3 ?_
 first|refine X0 (G1 ?_)|skip
 refine X0 (wpAny_sequenceKey ht.typeIs (by decide) ?_);refine X0 (m7 (name:=Str.ofString "__getitem__") ht.typeIs x6
  (O5 x6 ht.typeIs entry_tuple_getitem ?_ (args_tuple_getitem _ _)))
 show wpAny _ _ (Builtin.Tuple.tupleItemsOf (.ref t) >>= _) _ _ s;refine X0 (tupleItemsOf_ ht ?_);refine X0 (K7 hTs ?_);rw[Q1 (by decide)];refine X0 (AL hs pl pu ?_);have Iq:¬((((Fb items.size 0 lo:Nat):Int)==0&&(1:Int)==1&&(Fb items.size items.size hi-Fb items.size 0 lo)==items.size)=true):=by intro q;rw[Z2,Z2]at q;have q1:((Fb items.size 0 lo:Nat):Int)=0:=eq_of_beq q.1.1;have q2:Fb items.size items.size hi-Fb items.size 0 lo=items.size:=eq_of_beq q.2;exact hw ⟨by omega,by omega⟩
 show wpAny _ _ (if(((Fb items.size 0 lo:Nat):Int)==0&&(1:Int)==1&&(Fb items.size items.size hi-Fb items.size 0 lo)==items.size)=true then _ else _) _ _ s;rw[B2 Iq,BL]
 first
  |exact X0 (m:=Builtin.Tuple.tupleExact _) (E4 (G1 ⟨_,rfl,G1 h⟩) zu)
  |exact X0 (m:=Builtin.Tuple.tupleExact _) (E4 (X0 (G1 (G1 ⟨_,rfl,G1 h⟩))) zu)
  |exact X0 (X0 (m:=Builtin.Tuple.tupleExact _) (E4 (G1 (G1 ⟨_,rfl,G1 h⟩)) zu))
  |exact X0 (X0 (m:=Builtin.Tuple.tupleExact _) (E4 (G1 ⟨_,rfl,G1 h⟩) zu))
end
end HT
namespace L2
noncomputable abbrev TO:=St->Hp->(Option Int->Hp->Prop)->Prop
noncomputable def PO(X:Cx)(e:Option Expr)(t:TO):Prop:=
 ∀(pins:M0) (s:Shared) (σ:St) (H:Hp) (Q:Option Int->Hp->Prop),Inv X pins σ H s->t σ H Q->
  wpAny (model X.prog X.w) X.A (evalPart e X.env) (λu s'=>∃o H',Inv X pins σ H' s'/\IsPart u o/\Q o H') X.xe s
noncomputable def EL:TO:=λ_ H Q=>Q none H
noncomputable def FL(t:TE):TO:=λσ H Q=>t σ H λx H1=>∃i,x=.int i/\Q (some i) H1
section
variable{X:Cx}{e:Expr}{te:TE}{lo hi:Option Expr}{tl th:TO}{pos p2:Pos}
theorem GL:PO X none EL:=by intro pins s σ H Q I h;rw[evalPart_none];exact G1 ⟨none,H,I,.none,h⟩
theorem HL(h:PE X e te):PO X (some e) (FL te):=by intro pins s σ H Q I hw;rw[evalPart_some];refine Ua (h pins s σ H _ I hw) λu s1 ⟨x,H1,I1,r1,q1⟩=>?_;obtain⟨i,rfl,q⟩:=q1;obtain⟨t,rfl⟩:=r1;exact⟨some i,H1,I1,.int i t,q⟩
noncomputable def Ql(X:Cx)(r:V->Option Int->Option Int->Hp->VK->Prop):Prop:=
 ∀(pins:M0) (s:Shared) (σ:St) (H:Hp) (x:V) (v vl vu:Value) (lo hi:Option Int) (sl:Addr) (Q:VK),Inv X pins σ H s->RelV x v->s.heap.IsSliceOf sl vl vu .none->IsPart vl lo->IsPart vu hi->r x lo hi H Q->
  ∃T id,typeLookup (.type T) "__getitem__"=pure (some (.builtin id))/\s.TypeIs v T/\wpAny (model X.prog X.w) X.A (getItem v (.ref sl)) (EP X pins σ Q) X.xe s
theorem Ql.or{r r':V->Option Int->Option Int->Hp->VK->Prop}(h:Ql X r)(h':Ql X r'):Ql X (λx lo hi H Q=>r x lo hi H Q\/r' x lo hi H Q):=by
 intro pins s σ H x v vl vu lo hi sl Q I rx hs pl pu q;rcases q with q|q
 .exact h pins s σ H x v vl vu lo hi sl Q I rx hs pl pu q
 .exact h' pins s σ H x v vl vu lo hi sl Q I rx hs pl pu q
noncomputable def IL(r:V->Option Int->Option Int->Hp->VK->Prop)(te:TE)(tl th:TO):TE:=λσ H Q=>te σ H λx H1=>tl σ H1 λl H2=>th σ H2 λu H3=>r x l u H3 Q
theorem JL{r:V->Option Int->Option Int->Hp->VK->Prop}(hr:Ql X r)(he:PE X e te)(hl:PO X lo tl)(hu:PO X hi th):PE X (.Subscript e (.Slice lo hi none p2) pos) (IL r te tl th):=by intro pins s σ H Q I h;refine Zah (Ua (he pins s σ H _ I h) λv s1 ⟨x,H1,I1,r1,q1⟩=>?_);refine wpAny_Slice (Ua (hl pins s1 σ H1 _ I1 q1) λvl s2 ⟨l,H2,I2,pl,q2⟩=>Ua (hu pins s2 σ H2 _ I2 q2) λvu s3 ⟨u,H3,I3,pu,q3⟩=>?_);rw[evalPart_none];refine G1 ?_;have I4:Inv X pins σ H3 { s3 with heap:=s3.heap.push { cls:=.type "slice",data:=.fields #[vl,vu,.none] } }:=I3.kept (t':=s3.toks) λb ob q=>B1 _ q;obtain⟨T,id,hT,ht,hg⟩:=hr pins { s3 with heap:=s3.heap.push { cls:=.type "slice",data:=.fields #[vl,vu,.none] } } σ H3 x v vl vu l u s3.heap.objs.size Q I4 r1 (Heap.IsSliceOf.new ..) pl pu q3;show wpAny (model X.prog X.w) X.A (subscriptTail e (.Slice lo hi none p2) v (.ref s3.heap.objs.size)) (EP X pins σ Q) X.xe { s3 with heap:=s3.heap.push { cls:=.type "slice",data:=.fields #[vl,vu,.none] } };exact tail_any (ops:=[.ref s3.heap.objs.size,v]) ht hT hg (by with_unfolding_all rfl)
noncomputable def zj(xs:U0)(lo hi:Option Int):U0:=(xs.drop (HT.Fb xs.length 0 lo)).take (HT.Fb xs.length xs.length hi-HT.Fb xs.length 0 lo)
theorem DC(xs:U0)(lo hi:Option Int):(zj xs lo hi).length<=xs.length:=by unfold zj;rw[B4,A8];omega
noncomputable def KL(K:Frag):V->Option Int->Option Int->Hp->VK->Prop:=λx lo hi H Q=>∃a xs,x=.ref a/\Qe K H a xs/\
 ¬(HT.Fb xs.length 0 lo=0/\HT.Fb xs.length xs.length hi=xs.length)/\∀p,H p=none->Q (.ref p) (upd H p (.tup (zj xs lo hi)))
theorem LL:Ql X (KL X.K):=by
 intro pins s σ H x v vl vu lo hi sl Q I rx hs pl pu h;obtain⟨a,xs,rfl,hx,hw,q⟩:=h;cases rx;obtain⟨its,r,ht,hz⟩:=I.tuple hx;have hlen:its.toArray.size=xs.length:=by rw[R1];exact r.length.symm
 refine⟨"tuple",_,x6.lookup,ht.typeIs,?_⟩;refine HT.CL ht hs pl pu (by rw[hlen];exact hw) ?_ (by rw[hlen];exact hz);rw[hlen];refine⟨.ref s.heap.objs.size,_,I.laid (t':=s.toks) (o:=.tup (zj xs lo hi)) (λb ob q=>B1 _ q) (O1 _) ?_,rfl,q _ (I.Va.fresh (O1 _))⟩;exact⟨E3 (DC xs lo hi) hz,_,(r.drop (HT.Fb xs.length 0 lo)).take (HT.Fb xs.length xs.length hi-HT.Fb xs.length 0 lo),IsTup.new _ _⟩
end
noncomputable def we(n:Nat)(i:Int):Option Nat:=if 0<=i then(if i<n then some i.toNat else none)else if -(n:Int)<=i then some (i+n).toNat else none
noncomputable def vi{α:Type}(xs:List α)(i:Int):Option α:=(we xs.length i).bind λj=>xs[j]?
theorem EC{n:Nat}{i:Int}{j:Nat}(h:we n i=some j):seqIndex? i n=some j/\j<n/\-(n:Int)<=i/\i<n:=by
 unfold we at h;by_cases h0:0<=i
 .rw[Q1 h0]at h;by_cases h1:i<n
  .rw[Q1 h1]at h;have e:i.toNat=j:=B3 h;exact⟨by rw[S9 h0 h1,e],by omega,by omega,h1⟩
  .rw[B2 h1]at h;cases h
 .rw[B2 h0]at h;by_cases h1:-(n:Int)<=i
  .rw[Q1 h1]at h;have e:(i+n).toNat=j:=B3 h;exact⟨by rw[v9 (by omega) h1,e],by omega,h1,by omega⟩
  .rw[B2 h1]at h;cases h
theorem fy{α:Type}{xs:List α}{i:Int}{v:α}(h:vi xs i=some v):∃j,seqIndex? i xs.length=some j/\xs[j]?=some v/\j<xs.length/\-(xs.length:Int)<=i/\i<xs.length:=by
 unfold vi at h;cases e:we xs.length i with
 |none=>rw[e]at h;cases h
 |some j=>rw[e]at h;obtain⟨h1,h2,h3,h4⟩:=EC e;exact⟨j,h1,h,h2,h3,h4⟩
noncomputable def Yq(b:Expr):Prop:=∀o i,subscripted b false o i=operate [o,i] (getItem o i)
noncomputable def Ck(X:Cx)(r:R2):Prop:=
 ∀(value slice:Expr) (pins:M0) (s:Shared) (σ:St) (H:Hp) (x y:V) (v u:Value) (Q:VK),Inv X pins σ H s->RelV x v->RelV y u->r x y H Q->
  subscripted slice false v u=operate [v,u] (getItem v u)->wpAny (model X.prog X.w) X.A (subscriptTail value slice v u) (EP X pins σ Q) X.xe s
noncomputable def Rl(X:Cx)(id:String)(r:V->U0->Hp->VK->Prop):Prop:=
 ∀(pins:M0) (s:Shared) (σ:St) (H:Hp) (x:V) (xs:U0) (v:Value) (us:P0) (Q:VK),Inv X pins σ H s->RelV x v->Vals xs us->r x xs H Q->
  wpAny (model X.prog X.w) X.A (call (.builtin id) (v::us)) (EP X pins σ Q) X.xe s
section
variable{X:Cx}{a b:Expr}{ta tb:TE}{pos:Pos}
theorem Ck.or{r r':R2}(h:Ck X r)(h':Ck X r'):Ck X (λx y H Q=>r x y H Q\/r' x y H Q):=by
 intro value slice pins s σ H x y v u Q I rx ry q hs;rcases q with q|q
 .exact h value slice pins s σ H x y v u Q I rx ry q hs
 .exact h' value slice pins s σ H x y v u Q I rx ry q hs
theorem Rl.or{id:String}{r r':V->U0->Hp->VK->Prop}(h:Rl X id r)(h':Rl X id r'):Rl X id (λx xs H Q=>r x xs H Q\/r' x xs H Q):=by
 intro pins s σ H x xs v us Q I rx rs q;rcases q with q|q
 .exact h pins s σ H x xs v us Q I rx rs q
 .exact h' pins s σ H x xs v us Q I rx rs q
theorem Au{r:R2}(hr:Ck X r)(ha:PE X a ta)(hb:PE X b tb)(hs:Yq b):PE X (.Subscript a b pos) (xu r ta tb):=by intro pins s σ H Q I h;exact Zah (Wx ha hb I h λv u s2 x y H2 I2 rx ry q=>hr a b pins s2 σ H2 x y v u Q I2 rx ry q (hs _ _))
noncomputable def FC(K:Frag):R2:=λx y H Q=>∃p xs i v,x=.ref p/\y=.int i/\Cc K H p xs/\vi xs i=some v/\Q v H
noncomputable def GC(K:Frag):R2:=λx y H Q=>∃p xs i v,x=.ref p/\y=.int i/\Qe K H p xs/\vi xs i=some v/\Q v H
noncomputable def HC:R2:=λx y H Q=>∃z i c,x=.str z/\y=.int i/\z.length<=sizeLine/\vi z.cps.toList i=some c/\Q (.str ⟨#[c]⟩) H
theorem Bu:Ck X (FC X.K):=by
 intro value slice pins s σ H x y v u Q I rx ry h hs;obtain⟨p,xs,i,z,rfl,rfl,hq,he,q⟩:=h;cases rx;obtain⟨t,rfl⟩:=ry;obtain⟨its,r,pl,hz⟩:=I.list hq;obtain⟨j,h1,h2,h3,h4,h5⟩:=fy he;obtain⟨w,ew,Vf⟩:=r.get h2;have hl:=r.length;have hn:=Wq;have fin:EP X pins σ Q w s:=⟨z,H,I,Vf,q⟩
 by_cases h0:0<=i
 .have hj:i.toNat=j:=by
   rw[S9 h0 h5]at h1;exact B3 h1
  exact item_listR pl.isList h0 (by omega) (by rw[hj];simpa using ew) fin hs
 .have hj:(i+(its.toArray.size:Int)).toNat=j:=by
   rw[v9 (by omega) h4]at h1;rw[R1,<-hl];exact B3 h1
  exact u9 (x:=w) pl.isList.typeIs Zat.lookup
   (wpAny_getItem_list_neg (Q:=λr s'=>r=w/\EP X pins σ Q r s') pl.isList (by omega) (by rw[R1]<;>omega) (by omega) (by rw[hj];simpa using ew) ⟨rfl,fin⟩) hs
theorem ML:Ck X (GC X.K):=by
 intro value slice pins s σ H x y v u Q I rx ry h hs;obtain⟨p,xs,i,z,rfl,rfl,hq,he,q⟩:=h;cases rx;obtain⟨t,rfl⟩:=ry;obtain⟨its,r,pl,hz⟩:=I.tuple hq;obtain⟨j,h1,h2,h3,h4,h5⟩:=fy he;obtain⟨w,ew,Vf⟩:=r.get h2;have hl:=r.length;have hn:=Wq;have fin:EP X pins σ Q w s:=⟨z,H,I,Vf,q⟩
 exact u9 (x:=w) pl.typeIs slot_tuple_getitem.lookup
  (getItem_tuple (j:=j) (Q:=λr s'=>r=w/\EP X pins σ Q r s') pl (by omega) (by omega) (by rw[R1,<-hl];exact h1) (by simpa using ew) ⟨rfl,fin⟩) hs
theorem OL:Ck X HC:=by
 intro value slice pins s σ H x y v u Q I rx ry h hs;obtain⟨z,i,c,rfl,rfl,hz,he,q⟩:=h;obtain⟨t,rfl⟩:=rx;obtain⟨t',rfl⟩:=ry;obtain⟨j,h1,h2,h3,h4,h5⟩:=fy he;have hl:z.cps.toList.length=z.length:=by simp[Str.length]
 rw[hl]at h1 h4 h5;have hn:=Wq;exact tail_any (typeIs_str s z t) slot_str_getitem.lookup (getItem_str (c:=c) (by
  have e1:decide (i < -(2^63:Int))=false:=O2 (by omega);have e2:decide (i≥2^63)=false:=O2 (by omega);rw[e1,e2,Bool.or_false]) (by rw[h1];simpa using h2) ⟨.str ⟨#[c]⟩,H,I.tok _,⟨_,rfl⟩,q⟩) hs
noncomputable def PL(K:Frag):R2:=λx y H Q=>FC K x y H Q\/GC K x y H Q\/HC x y H Q
theorem QL:Ck X (PL X.K):=Bu.or (ML.or OL)
theorem RL(its:P0)(n j:Nat)(u:Value):Obj.mapSeq (·.setIfInBounds j u) { cls:=.type "list",data:=.seq its.toArray n }={ cls:=.type "list",data:=.seq (its.set j u).toArray n }:=by simp[Obj.mapSeq]
theorem Inv.lst{pins:M0}{σ:St}{H:Hp}{s:Shared}{p:Addr}{xs:U0}(I:Inv X pins σ H s)(h:H p=some (.lst xs)):∃(its:P0) (n:Nat),Vals xs its/\s.heap.get? p=some { cls:=.type "list",data:=.seq its.toArray n }/\xs.length<=sizeLine:=by obtain⟨z,its,n,r,e⟩:=I.Va p _ h;exact⟨its,n,r,e,z⟩
theorem Inv.TL{pins:M0}{σ:St}{H:Hp}{s:Shared}{p:Addr}{xs ys:U0}{its its':P0}{n n':Nat}{f:Obj->Obj}(I:Inv X pins σ H s)(h:H p=some (.lst xs))(ho:s.heap.get? p=some { cls:=.type "list",data:=.seq its.toArray n })(hf:f { cls:=.type "list",data:=.seq its.toArray n }={ cls:=.type "list",data:=.seq its'.toArray n' })(r:Vals ys its')(hz:ys.length<=sizeLine)(t:Nat):Inv X pins σ (upd H p (.lst ys)) { s with heap:=s.heap.update p f,toks:=t }:=by
 have e:(s.heap.update p f).get? p=some { cls:=.type "list",data:=.seq its'.toArray n' }:=by rw[G4 f ho (by rw[hf]<;>rfl),hf]
 refine I.write (x:=p) (e:=p) (by rw[h];trivial) (.inl rfl) (λb u hb q=>(D2 _ _ (U3 hb)).trans q) ⟨_,e⟩ ?_;exact⟨hz,its',n',r,e⟩
noncomputable def UL:V->V->V->Hp->(Hp->Prop)->Prop:=λo i v H Q=>∃p xs k j,o=.ref p/\i=.int k/\H p=some (.lst xs)/\we xs.length k=some j/\Q (upd H p (.lst (xs.set j v)))
theorem set_list:YB X UL:=by
 intro pins s σ H o i v ov iv u Q I ro ri rv h;obtain⟨p,xs,k,j,rfl,rfl,hp,hj,q⟩:=h;cases ro;obtain⟨t,rfl⟩:=ri;obtain⟨its,n,r,ho,hz⟩:=I.lst hp;obtain⟨h1,h2,h3,h4⟩:=EC hj;have hl:=r.length;have hn:=Wq;have I':Inv X pins σ (upd H p (.lst (xs.set j v))) { s with heap:=s.heap.update p (Obj.mapSeq (·.setIfInBounds j u)) }:=
  I.TL hp ho (RL its n j u) (r.set rv j) (by rw[P2];exact hz) s.toks
 by_cases h0:0<=k
 .have hk:k.toNat=j:=by
   rw[S9 h0 h4]at h1;exact B3 h1
  exact PySem.W.ki_setAt ho h0 (by omega) (by rw[R1,<-hl];exact h4) (by rw[hk];exact⟨_,I',q⟩)
 .have hk:(k+(its.toArray.size:Int)).toNat=j:=by
   rw[v9 (by omega) h3]at h1;rw[R1,<-hl];exact B3 h1
  exact PySem.W.ki_setBack ho (by omega) (by rw[R1,<-hl];exact h3) (by omega) (by rw[hk];exact⟨_,I',q⟩)
theorem VL(lo hi:Option Int)(n:Nat):(sliceBounds lo hi none n).1=((HT.Fb n 0 lo:Nat):Int)/\(sliceBounds lo hi none n).2.1=((HT.Fb n n hi:Nat):Int)/\(sliceBounds lo hi none n).2.2=1:=by
 refine⟨?_,?_,rfl⟩
 .cases lo with
  |none=>simp[sliceBounds,HT.Fb]
  |some i=>
   simp only[sliceBounds,HT.Fb,o7,show(1:Int)>0 by decide,M6];by_cases h:i<0
   .simp only[h,M6]<;>omega
   .simp only[h,r6]<;>omega
 .cases hi with
  |none=>simp[sliceBounds,HT.Fb]
  |some i=>
   simp only[sliceBounds,HT.Fb,o7,show(1:Int)>0 by decide,M6];by_cases h:i<0
   .simp only[h,M6]<;>omega
   .simp only[h,r6]<;>omega
theorem WL(its:P0)(lo hi:Option Int):slicePick its.toArray lo hi none=((its.drop (HT.Fb its.length 0 lo)).take (HT.Fb its.length its.length hi-HT.Fb its.length 0 lo)).toArray:=by obtain⟨h1,h2,h3⟩:=VL lo hi its.toArray.size;unfold slicePick;rw[h1,h2,h3];simp only[sliceRange_one,pick_run,R1]<;>rfl
noncomputable def YL(K:Frag):V->Option Int->Option Int->Hp->VK->Prop:=λx lo hi H Q=>∃a xs,x=.ref a/\Cc K H a xs/\∀p,H p=none->Q (.ref p) (upd H p (.lst (zj xs lo hi)))
theorem ZL:Ql X (YL X.K):=by intro pins s σ H x v vl vu lo hi sl Q I rx hs pl pu h;obtain⟨a,xs,rfl,hx,q⟩:=h;cases rx;obtain⟨its,r,ht,hz⟩:=I.list hx;have hlen:=r.length;refine⟨"list",_,Zat.lookup,ht.isList.typeIs,?_⟩;refine wpAny_getItem_list_slice ht.isList hs pl pu .none (by simp) ?_ (by rw[R1]<;>omega);rw[WL,<-hlen];refine⟨.ref s.heap.objs.size,_,I.laid (t':=s.toks) (o:=.lst (zj xs lo hi)) (λb ob q=>B1 _ q) (O1 _) ?_,rfl,q _ (I.Va.fresh (O1 _))⟩;exact⟨E3 (DC xs lo hi) hz,_,0,(r.drop (HT.Fb xs.length 0 lo)).take (HT.Fb xs.length xs.length hi-HT.Fb xs.length 0 lo),Z1 _ rfl⟩
theorem aM:Ze X (.builtin "len") (λxs H Q=>∃p ys,xs=[.ref p]/\(Cc X.K H p ys\/Qe X.K H p ys)/\Q (.int ys.length) H):=by
 intro pins s σ H xs us Q I r h;obtain⟨p,ys,rfl,hq,q⟩:=h;obtain⟨u,rfl,rx⟩:=vals1 r;cases rx;have hn:=Wq;rcases hq with hq|hq
 .obtain⟨its,r',pl,hz⟩:=I.list hq;have hlen:=r'.length;exact Calls.call_len_list pl.isList (by simp only[R1]<;>omega) ⟨.int ys.length,H,I.tok _,⟨s.toks+1,by rw[R1,hlen]⟩,q⟩
 .obtain⟨its,r',pl,hz⟩:=I.tuple hq;have hlen:=r'.length;exact len_tuple pl (by simp only[R1]<;>omega) ⟨.int ys.length,H,I.tok _,⟨s.toks+1,by rw[R1,hlen]⟩,q⟩
theorem Ze.or{f:Value}{r r':U0->Hp->VK->Prop}(h:Ze X f r)(h':Ze X f r'):Ze X f (λxs H Q=>r xs H Q\/r' xs H Q):=by
 intro pins s σ H xs us Q I rs q;rcases q with q|q
 .exact h pins s σ H xs us Q I rs q
 .exact h' pins s σ H xs us Q I rs q
theorem IC:Ze X (.type "list") (λxs H Q=>∃p ys,xs=[.ref p]/\(Cc X.K H p ys\/Qe X.K H p ys)/\∀l,H l=none->Q (.ref l) (upd H l (.lst ys))):=by
 intro pins s σ H xs us Q I r h;obtain⟨p,ys,rfl,hq,q⟩:=h;obtain⟨u,rfl,rx⟩:=vals1 r;cases rx;have fin:∀(its:P0),Vals ys its->ys.length<=sizeLine->∀(h':Heap) (c':Nat),(∀b o',s.heap.get? b=some o'->h'.get? b=some o')->
   h'.get? s.heap.objs.size=some { cls:=.type "list",dict:=none,data:=.seq its.toArray c',slots:=#[] }->EP X pins σ Q (.ref s.heap.objs.size) { s with heap:=h' }:=λits r' hz h' c' kp e=>
  ⟨.ref s.heap.objs.size,_,I.laid (t':=s.toks) kp (O1 _) (show de X.prog X.w _ h' _ (.lst ys)from⟨hz,its,c',r',e⟩),rfl,q _ (I.Va.fresh (O1 _))⟩
 rcases hq with hq|hq
 .obtain⟨its,r',pl,hz⟩:=I.list hq;have hlen:=r'.length;obtain⟨o,ho,hc,n,hd⟩:=pl.isList;exact call_list_seq p (.inl rfl) ho hc hd (λh' c' kp e=>fin its r' hz h' c' kp e) (by simp only[R1]<;>omega)
 .obtain⟨its,r',pl,hz⟩:=I.tuple hq;have hlen:=r'.length;obtain⟨o,ho,hc,n,hd⟩:=pl;exact call_list_seq p (.inr rfl) ho hc hd (λh' c' kp e=>fin its r' hz h' c' kp e) (by simp only[R1]<;>omega)
noncomputable def gy(K:Frag)(T:String)(x:V)(H:Hp):Prop:=match x with
 |.str _=>T="str"
 |.int _=>T="int"
 |.ref p=>(T="list"/\∃xs,Cc K H p xs)\/(T="tuple"/\∃o,K.lookup p=some o/\o.cls=.type "tuple"/\o.dict=none)\/
   (T="dict"/\((∃kvs,H p=some (.dK kvs))\/∃kvs,H p=some (.dT kvs)))\/(T="set"/\∃S n,H p=some (.set S n))
 |_=>False
theorem bM{pins:M0}{σ:St}{H:Hp}{s:Shared}{T:String}{x:V}{v:Value}(I:Inv X pins σ H s)(r:RelV x v)(ty:gy X.K T x H):s.TypeIs v T/\∀a,v=.ref a->∃ob,s.heap.get? a=some ob/\ob.dict=none:=by
 cases x with
 |str z=>obtain⟨t,rfl⟩:=r;cases(show T="str" from ty);exact⟨typeIs_str s z t,λ_ e=>nomatch e⟩
 |int i=>obtain⟨t,rfl⟩:=r;cases(show T="int" from ty);exact⟨typeIs_int s i t,λ_ e=>nomatch e⟩
 |ref p=>
  cases r;rcases ty with⟨rfl,xs,hq⟩|⟨rfl,o,hk,hc,hd⟩|⟨rfl,hk⟩|⟨rfl,S,n,hk⟩
  .obtain⟨its,_,pl,_⟩:=I.list hq;refine⟨pl.isList.typeIs,λa e=>?_⟩;cases e;obtain⟨o,n,e,c,hd,_⟩:=pl;exact⟨o,e,hd⟩
  .refine⟨⟨o,I.Jg p o hk,hc⟩,λa e=>?_⟩;cases e;exact⟨o,I.Jg _ o hk,hd⟩
  .have z:∃o,s.heap.get? p=some o/\o.ExactDict:=by
    rcases hk with⟨kvs,hk⟩|⟨kvs,hk⟩
    .obtain⟨_,_,_,_,o,_,_,e,ex,_⟩:=I.Va p _ hk;exact⟨o,e,ex⟩
    .obtain⟨_,_,_,_,o,_,_,e,ex,_⟩:=I.Va p _ hk;exact⟨o,e,ex⟩
   obtain⟨o,e,ex⟩:=z;refine⟨⟨o,e,ex.1⟩,λa e2=>?_⟩;cases e2;exact⟨o,e,ex.2.1⟩
  .obtain⟨o,_,_,_,e,ex,_⟩:=I.Va p _ hk;refine⟨⟨o,e,ex.1⟩,λa e2=>?_⟩;cases e2;exact⟨o,e,ex.2.1⟩
 |_=>exact False.elim ty
noncomputable def cM(K:Frag)(T:String)(r:V->U0->Hp->VK->Prop)(to:TE)(t:TA):TE:=λσ H Q=>to σ H λx H1=>gy K T x H1/\t σ H1 λxs H2=>r x xs H2 Q
variable{o e:Expr}{es:T0}{to:TE}{t:TA}{name:Str}{apos cpos:Pos}{T id:String}{r:V->U0->Hp->VK->Prop}
theorem Ek(pa:PlainAttrs T)(slot:Slot T name id)(qY:typeOf (.builtin id)=pure (.type "method_descriptor"))(hm:Rl X id r)(ho:PE X o to)(ha:PA X (e::es) t)(gf:attributeBase o name X.env (eval o X.env)=eval o X.env:=by rfl)(Ut:((backTo cpos (starEach (e::es) X.env)).all (λx=>!x.1)&&(backToKw cpos (keywordEach [] X.env)).all (λx=>x.1.isSome) && decide ((e::es).length+([]:List Keyword).length+(if([]:List Keyword).isEmpty then 0 else 1)<30))=true:=by rfl)(jf:(apos.endLine==cpos.line)=true:=by rfl)(hs:starEach (e::es) X.env=(false,eval e X.env)::starEach es X.env:=by rfl)(hplain:(backTo cpos (starEach es X.env)).any (·.1)=false:=by rfl):PE X (.Call (.Attribute o name apos) (e::es) [] cpos) (cM X.K T r to t):=by intro pins s σ H Q I h;refine wpAny_Call_method_late gf Ut jf rfl (Ua (ho pins s σ H _ I h) λv s1 ⟨x,H1,I1,r1,ty,q1⟩=>?_);obtain⟨h1,h2⟩:=bM I1 r1 ty;refine⟨T,id,pa,slot,qY,h1,h2,?_⟩;have hA:=ha cpos pins s1 σ H1 _ I1 q1;rw[hs]at hA |-;refine M9 (by show(false||(backTo cpos (starEach es X.env)).any (·.1))=false;rw[hplain]<;>rfl) (b8 ?_);exact Ua hA λus s2 ⟨vs,H2,I2,r2,q2⟩=>hm pins s2 σ H2 x vs v us Q I2 r1 r2 q2
end
noncomputable def Cu(X:Cx)(id:String)(r:V->U0->Hp->VK->Prop):Prop:=
 ∀(pins:M0) (s:Shared) (σ:St) (H:Hp) (x:V) (xs:U0) (v:Value) (us:P0) (Q:VK),Inv X pins σ H s->RelV x v->Vals xs us->r x xs H Q->
  wpAny (model X.prog X.w) X.A (call (.builtin id) (v::us)) (EP X pins σ Q) X.xe s
theorem Vals.one:∀{x:V} {us:P0},Vals [x] us->∃u,us=[u]/\RelV x u
 |_,_,.cons r .nil=>⟨_,rfl,r⟩
theorem Vals.two:∀{x y:V} {us:P0},Vals [x,y] us->∃u v,us=[u,v]/\RelV x u/\RelV y v
 |_,_,_,.cons r (.cons q .nil)=>⟨_,_,rfl,r,q⟩
theorem Vals.eraseIdx:∀{xs:U0} {us:P0} (i:Nat),Vals xs us->Vals (xs.eraseIdx i) (us.eraseIdx i)
 |_,_,_,.nil=>.nil
 |_,_,0,.cons _ t=>t
 |_,_,i+1,.cons r t=>.cons r (Vals.eraseIdx i t)
theorem Vals.rep{xs:U0}{us:P0}(h:Vals xs us):∀k:Nat,Vals (List.replicate k xs).flatten (List.replicate k us).flatten
 |0=>.nil
 |k+1=>by rw[Zab,Zab,u8,u8];exact Vals.append h (Vals.rep h k)
theorem JC{α:Type}:∀(l:List α) (i:Nat),(l.eraseIdx i).length<=l.length
 |[],_=>O1 _
 |_::_,0=>m5 _
 |_::r,i+1=>Nat.succ_le_succ (JC r i)
section
variable{X:Cx}{pins:M0}{σ:St}{H:Hp}{s:Shared}{l b:Addr}{xs ys zs:U0}
theorem Inv.Du{its its':P0}{n:Nat}{f:Array Value->Array Value}{t':Nat}(I:Inv X pins σ H s)(hH:H l=some (.lst xs))(e:s.heap.get? l=some { cls:=.type "list",data:=.seq its.toArray n })(hf:f its.toArray=its'.toArray)(hv:Vals ys its')(hz:ys.length<=sizeLine):Inv X pins σ (upd H l (.lst ys)) { s with heap:=s.heap.update l (Obj.mapSeq f),toks:=t' }:=by have q:=PySem.IsL.update e f;rw[hf]at q;refine I.write (x:=l) (e:=l) (by rw[hH];exact trivial) (.inl rfl) (λb' u hb hu=>(D2 s.heap (Obj.mapSeq f) (U3 hb)).trans hu) ⟨_,q⟩ ?_;exact⟨hz,its',_,hv,q⟩
theorem Inv.KC{its:P0}{t':Nat}(I:Inv X pins σ H s)(hv:Vals ys its)(hz:ys.length<=sizeLine):Inv X pins σ (upd H s.heap.objs.size (.lst ys)) { s with heap:=s.heap.push { cls:=.type "list",data:=.seq its.toArray },toks:=t' }:=
 I.laid (λ_ _ q=>B1 _ q) (O1 _) ⟨hz,its,0,hv,Z1 _ rfl⟩
theorem Inv.fresh(I:Inv X pins σ H s):H s.heap.objs.size=none:=I.Va.fresh (O1 _)
theorem Inv.Zq(I:Inv X pins σ H s)(hH:H l=some (.lst xs)):xs.length<=sizeLine/\∃(its:P0) (n:Nat),Vals xs its/\xs.length=its.length/\s.heap.get? l=some { cls:=.type "list",data:=.seq its.toArray n }:=by obtain⟨z,its,n,r,e⟩:=I.Va l _ hH;exact⟨z,its,n,r,r.length,e⟩
theorem dM{n:Nat}(h:n<=sizeLine):Builtin.List.listTooLong n=false:=by unfold Builtin.List.listTooLong;exact O2 (by omega)
end
section
variable{X:Cx}
noncomputable def eM:V->U0->Hp->VK->Prop:=λx vs H Q=>∃l xs y,x=.ref l/\vs=[y]/\H l=some (.lst xs)/\xs.length<sizeLine/\Q .non (upd H l (.lst (xs++[y])))
theorem jy:Cu X "list.append" eM:=by intro pins s σ H x vs v us Q I rx rv h;obtain⟨l,xs,y,rfl,rfl,hH,hz,q⟩:=h;cases rx;obtain⟨u,rfl,ru⟩:=rv.one;obtain⟨z,its,n,r,hl,e⟩:=I.Zq hH;refine N7 F.slot_list_append ⟨_,e,rfl⟩ F.entry_list_append (F.args_list_append_2 _ _) (PySem.list_append l its.toArray n u (by rw[R1];omega)) ⟨e,?_⟩;refine⟨.non,_,I.Du (its':=its++[u]) hH e (by simp) (r.append (.cons ru .nil)) ?_,rfl,q⟩;rw[U2,U5];omega
noncomputable def fM:V->U0->Hp->VK->Prop:=λx vs H Q=>∃l b xs zs,x=.ref l/\vs=[.ref b]/\H l=some (.lst xs)/\H b=some (.lst zs)/\xs.length+zs.length<=sizeLine/\Q .non (upd H l (.lst (xs++zs)))
theorem gM:Cu X "list.extend" fM:=by
 intro pins s σ H x vs v us Q I rx rv h;obtain⟨l,b,xs,zs,rfl,rfl,hH,hB,hz,q⟩:=h;cases rx;obtain⟨u,rfl,ru⟩:=rv.one;cases ru;obtain⟨z,its,n,r,hl,e⟩:=I.Zq hH;obtain⟨z2,its2,n2,r2,Qm,e2⟩:=I.Zq hB;have hsz:its.toArray.size+its2.toArray.size<=sizeLine:=by rw[R1,R1];omega
 have iM:¬(!its.toArray.isEmpty&&Builtin.List.listTooLong (its.toArray.size+its2.toArray.size))=true:=by rw[dM hsz,a7];exact Z6
 refine N7 F.slot_list_extend ⟨_,e,rfl⟩ F.entry_list_extend (F.args_list_extend_2 _ _)
  (AutoSeq1.list_extend_list_list_0 l its.toArray n b its2.toArray n2 iM (by rw[R1];omega) (by omega)) ⟨e,e2,?_⟩
 refine⟨.non,_,I.Du (its':=its++its2) hH e (by simp) (r.append r2) ?_,rfl,q⟩;rw[U2];omega
noncomputable def jM:V->U0->Hp->VK->Prop:=λx vs H Q=>∃l xs i k y,x=.ref l/\vs=[.int i]/\H l=some (.lst xs)/\-(2^63)<=i/\i<2^63/\seqIndex? i xs.length=some k/\xs[k]?=some y/\Q y (upd H l (.lst (xs.eraseIdx k)))
theorem kM:Cu X "list.pop" jM:=by
 intro pins s σ H x vs v us Q I rx rv h;obtain⟨l,xs,i,k,y,rfl,rfl,hH,h1,h2,hk,hy,q⟩:=h;cases rx;obtain⟨u,rfl,ru⟩:=rv.one;obtain⟨t,rfl⟩:=ru;obtain⟨z,its,n,r,hl,e⟩:=I.Zq hH;obtain⟨w,hw,Vf⟩:=r.get hy;refine N7 F.slot_list_pop ⟨_,e,rfl⟩ F.entry_list_pop (F.args_list_pop_2 _ _)
  (MeetsSeq.list_pop_at l its.toArray n i t k w (fitsIndex_both h1 h2) (by rw[R1,<-hl];exact hk) (by rw[<-X7];exact hw) (by rw[R1];omega)) ⟨e,?_⟩
 refine⟨y,_,I.Du (its':=its.eraseIdx k) hH e ?_ (r.eraseIdx k) ?_,Vf,q⟩
 .show its.toArray.eraseIdxIfInBounds k=(its.eraseIdx k).toArray;rw[List.eraseIdxIfInBounds_toArray]
 .have:=JC xs k;omega
end
end L2
namespace LC
open PySem.W PySem.Calls
theorem lM{P:Params}{h:Heap}:∀(ns:K0) (vs:P0),WellAll P h vs (ns.map WData.int)->IntsAre vs ns:=by
 intro ns;induction ns with
 |nil=>intro vs w;rw[V6]at w;cases w;exact .nil
 |cons n ns ih=>
  intro vs w;rw[V1]at w;cases w with
  |cons a b=>cases a;exact .cons _ _ (ih _ b)
theorem mM{l:OpenLaw}{n:Nat}(hn:l.most=some n){P:Params}{h:Heap}{args:List WData}{vals:P0}(Zw:l.row.toRowW.claim.pre args=true)(jx:WellAll P h vals args):∃a vs ns,vals=[Value.ref a]/\args=[WData.list (ns.map WData.int)]/\h.get? a=some { cls:=.type "list",data:=.seq vs.toArray }/\IntsAre vs ns/\ns.length<=n:=by
 have rY:WShape.hasAll [] args [.list .int]=true:=(pre_splitW Zw).1;have hc:l.pre.holds [] { args:=args }=true:=(pre_splitW Zw).2;obtain⟨d,r,rfl,h1,h2⟩:=hasAllW_cons rY;obtain rfl:=hasAllW_nil h2;obtain⟨xs,rfl,h3⟩:=hasW_list h1;obtain⟨ns,rfl⟩:=items_int h3;have hlen:ns.length<=n:=by
  unfold OpenLaw.pre at hc;have h4:(WTm.not (.lt (.lit (.int (n:Int))) (.len (.arg 0)))).holds [] { args:=[.list (ns.map .int)] }=true:=by have h4:=(holds_andW hc).1;rw[hn]at h4;exact h4
  have h5:=condW_of h4 (w_not (w_lt w_lit (w_len_list (w_arg rfl))));rw[Y0]at h5;refine Nat.le_of_not_lt λq=>?_;have q':(n:Int)<((ns.length:Nat):Int):=by omega
  first
   |(rw[K2 q']at h5;exact absurd h5 (by decide))
   |(simp at h5;omega)
 cases jx with
 |cons w1 w2=>
  cases w2;cases w1 with
  |list ho vB=>exact⟨_,_,ns,rfl,rfl,ho,lM ns _ vB,hlen⟩
theorem nM(l:OpenLaw)(args:List WData):l.row.toRowW.claim.post args (.bool true) args=true:=
 postW_of (r:=l.row.toRowW) (X:=(true==true))
  (show WShape.has [] (.bool true) .bool=true by first|rfl|decide|simp[WShape.has,WShape.arms,WShape.armsAll])
  (show(WTm.eq .res (.lit (.bool true))).value [] { args:=args,res:=some (.bool true),after:=args }=some (.bool (true==true))from w_eq_bool (w_res rfl) w_lit) rfl
theorem oM{l:OpenLaw}{n:Nat}{q:Program}{loose:Q0}{XP:O0->Heap->Prop}{YP:World->Heap->Prop}{d:DefRec}(hn:l.most=some n)(Il:d.params.defaults=[])(call:∀(w:World) (s₀ s₁:Shared) (mg mb:O0) (fa:Addr) (o:Obj) (pm cd doc:Value) (a:Addr) (vs:P0) (ns:K0),Ground q loose [] XP w s₀ mg mb s₁.heap->YP w s₁.heap->s₁.heap.get? fa=some o->o.data=.func (docDef d.name d.params d.body d.scope pm cd doc)->s₁.heap.CodeRec cd d.name->mg d.name=some (.ref fa)->s₁.heap.get? a=some { cls:=.type "list",data:=.seq vs.toArray }->IntsAre vs ns->ns.length<=n->s₁.gens=#[]->codeAny (model l.prog w) callerA (.call (.ref fa) ⟨[.ref a],[]⟩) (λr s'=>r=.ok (.ret (.bool true))/\OldK s₁.heap s'.heap/\s'.os=s₁.os/\AllBare s'.gens) s₁):WalkO q loose XP YP l.row.toRowW d [] (λf vs=>PySem.call f vs):=by intro w s₀ s₁ mg mb G Y fa o pm cd doc dV kV ho hd Mb hD hmg hg args vals as Zw NZ OZ jx PZ;obtain rfl:dV=.none:=Dflts.none hD Il;obtain rfl:kV=.none:=Dflts.noKw hD;obtain⟨a,vs,ns,rfl,rfl,wB,hints,hlen⟩:=mM hn Zw jx;refine enter_call (Z5 (call w s₀ s₁ mg mb fa o pm cd doc a vs ns G Y ho (fd_plain hd) Mb hmg wB hints hlen hg) λr s' hq=>?_);obtain⟨rfl,h2,h3,h4⟩:=hq;exact⟨.inl ⟨.bool true,.bool true,[],rfl,λ_=>rfl,.bool true,nM l _,λ_=>⟨List.Pairwise.nil,λ_ hm=>(nomatch hm)⟩⟩,h2,h3,h4⟩
end LC
namespace L2
theorem Tl:∀{vs:P0} {ns:K0},IntsAre vs ns->Vals (ns.map V.int) vs
 |_,_,.nil=>.nil
 |_,_,.cons n t h=>.cons ⟨t,rfl⟩ (Tl h)
noncomputable def Only(H:Hp):Prop:=∀b,H b=none\/∃o xs,H b=some (.Tc o (.lst xs))
theorem pM{P:Program}{w:World}{K:Frag}{mg mb:O0}{CX:rh}{k:Nat}{fa a:Addr}{fd:FuncData}{x:Str}{sp:Sp}{s₁:Shared}{vs:P0}{ns:K0}(KX:K.In s₁.heap)(Jf:s₁.heap.Ns mainGlobals mg)(hb:s₁.heap.Ns builtinsNs mb)(sY:∀x:Str,x≠"__name__"->mb x=bootBuiltins x)(dJ:s₁.heap.NoLimit)(hg:s₁.gens=#[])(ha:s₁.heap.get? a=some { cls:=.type "list",data:=.seq vs.toArray })(hi:IntsAre vs ns)(hl:ns.length<=sizeLine)(hr:rc k callerA)(F:∀base:Heap,K.In base->base.Ns mainGlobals mg->Ce P w K mg base CX k fa fd [x] sp)(xB:∀(s:Shared) (u:Value),BindsTo s fd ⟨[u],[]⟩ [(x,u)])(Pm:∀H:Hp,Only H->Cc K H a (ns.map V.int)->sp [.ref a] H (λv _=>v=.bl true) λ_ _ _=>False)(ky:∀H e s',CX [] H s₁ (λ_ _ _=>False) e s'->False):codeAny (model P w) callerA (.call (.ref fa) ⟨[.ref a],[]⟩) (λr s'=>r=.ok (.ret (.bool true))/\OldK s₁.heap s'.heap/\s'.os=s₁.os/\AllBare s'.gens) s₁:=by
 have rv:=Tl hi;have lenV:=hi.length;have core:∀H:Hp,Only H->Cc K H a (ns.map V.int)->Dd P w H s₁.heap->(∀b,H b≠none->b=a)->(H a≠none->K.lookup a=none)->
   codeAny (model P w) callerA (.call (.ref fa) ⟨[.ref a],[]⟩) (λr s'=>r=.ok (.ret (.bool true))/\OldK s₁.heap s'.heap/\s'.os=s₁.os/\AllBare s'.gens) s₁:=by
  intro H hO hS Va hA hK;have MC:∀{b:Addr} {o:Obj},s₁.heap.get? b=some o->H b=none->(uk s₁.heap H).get? b=some o:=λe n=>TJ e n;have Bk:∀{b:Addr} {o:Obj} {es:Array DictEntry} {ep:Nat},s₁.heap.get? b=some o->o.data=.dict es ep->H b=none:=λ{b o es ep} e d=>by
   cases q:H b with
   |none=>rfl
   |some u=>have e':b=a:=hA b (by rw[q];simp);subst e';rw[ha]at e;cases e;have d':Data.seq vs.toArray _=Data.dict es ep:=d;cases d'
  have Eu:∀{b:Addr} {m:O0},s₁.heap.Ns b m->(uk s₁.heap H).Ns b m:=λ{b m} ⟨o,es,ep,e,d,r⟩=>⟨o,es,ep,MC e (Bk e d),d,r⟩
  have NC:K.In (uk s₁.heap H):=λb o e=>MC (KX b o e) (by
   cases q:H b with
   |none=>rfl
   |some u=>have e':b=a:=hA b (by rw[q];simp);subst e';rw[hK (by rw[q];simp)]at e;cases e)
  have hM:Mod K mg (uk s₁.heap H):=⟨NC,Eu Jf,⟨mb,Eu hb,sY⟩,let ⟨mc,h1,h2⟩:=dJ;⟨mc,Eu h1,h2⟩⟩
  have e0:Ak P w K mg (uk s₁.heap H) callerA [] s₁ H:=⟨rfl,hM,λb o e=>UJ e,G9 (SJ _ _),trivial,λb hb=>absurd (show b∈([]:R0)from hb) (by simp),Va,.of_eq hg⟩
  refine Z5 ((F _ NC (Eu Jf)).run callerA [] s₁ H ⟨[.ref a],[]⟩ [.ref a] [.ref a] _ _ hr e0 (xB s₁ (.ref a)) (.cons rfl .nil) (Pm H hO hS)) λr s' h=>?_;cases r with
  |error e=>exact(ky H e s' h).elim
  |ok fl=>
   cases fl with
   |next=>exact False.elim h
   |brk=>exact False.elim h
   |cont=>exact False.elim h
   |ret u=>
    obtain⟨v,H',os,bare,un,tY,r',q⟩:=h;have q':v=.bl true:=q;subst q';obtain rfl:u=Value.bool true:=r';refine⟨rfl,OldK.of_keep λb o e=>?_,os,bare⟩;cases q:H b with
    |none=>exact un.keep b o e q (by intro z;exact absurd (show b∈([]:R0)from z) (by simp)) (by simp)
    |some u=>
     rcases hO b with z|⟨ob,xs,z⟩
     .rw[q]at z;cases z
     .have z2:=un.Tf b ob _ z;obtain⟨e1,_⟩:=Va b _ z;obtain⟨e2,_⟩:=tY b _ z2;rw[e]at e1;cases e1;exact e2
 cases hk:K.lookup a with
 |some o=>have e:=KX a o hk;rw[ha]at e;cases e;refine core (λ_=>none) (λ_=>.inl rfl) (.inr ⟨_,vs.toArray,_,hk,rfl,rfl,rfl,by rw[R1,lenV];exact hl,by simpa using rv⟩) (λb u z=>by have z':(none:Option HO)=some u:=z;cases z') (λb z=>absurd rfl z) λz=>absurd rfl z
 |none=>
  refine core (λb=>if b=a then some (.Tc { cls:=.type "list",data:=.seq vs.toArray } (.lst (ns.map V.int)))else none) (λb=>?_) (.inl (.inr ⟨{ cls:=.type "list",data:=.seq vs.toArray },Q1 rfl⟩)) (λb u z=>?_) (λb z=>?_) λ_=>hk
  .by_cases hb:b=a
   .exact .inr ⟨_,_,Q1 hb⟩
   .exact .inl (B2 hb)
  .by_cases hb:b=a
   .have z':=(Q1 hb).symm.trans z;cases z';subst hb;exact⟨ha,by rw[Y0];exact hl,vs,_,rv,ha⟩
   .have z':=(B2 hb).symm.trans z;cases z'
  .by_cases hb:b=a
   .exact hb
   .exact absurd (B2 hb) z
theorem qM{l:OpenLaw}{n k:Nat}{q:Program}{loose:Q0}{XP:O0->Heap->Prop}{YP:World->Heap->Prop}{d:DefRec}{K:Params->Frag}{CX:World->rh}{sp:World->Sp}{x:Str}(hn:l.most=some n)(uY:n<=sizeLine)(Il:d.params.defaults=[])(hr:rc k callerA)(hY:∀(w:World) (h:Heap),YP w h->(K w.params).In h)(F:∀(w:World) (mg:O0) (fa:Addr) (h:Heap),(K w.params).In h->h.Ns mainGlobals mg->mg d.name=some (.ref fa)->∃fd:FuncData,(∀(s:Shared) (u:Value),BindsTo s fd ⟨[u],[]⟩ [(x,u)])/\∀base:Heap,(K w.params).In base->base.Ns mainGlobals mg->Ce l.prog w (K w.params) mg base (CX w) k fa fd [x] (sp w))(Pm:∀(w:World) (H:Hp) (a:Addr) (ns:K0),ns.length<=n->Only H->Cc (K w.params) H a (ns.map V.int)->sp w [.ref a] H (λv _=>v=.bl true) λ_ _ _=>False)(ky:∀(w:World) (H:Hp) (s:Shared) (e:Value) (s':Shared),CX w [] H s (λ_ _ _=>False) e s'->False):WalkO q loose XP YP l.row.toRowW d [] (λf vs=>PySem.call f vs):=by refine LC.oM hn Il λw s₀ s₁ mg mb fa o pm cd doc a vs ns G Y ho hd Mb hmg wB hints hlen hg=>?_;have KX:=hY w _ Y;obtain⟨fd,hb,hF⟩:=F w mg fa _ KX G.T.g hmg;exact pM KX G.T.g G.T.b G.T.builtins G.T.nolimit hg wB hints (E3 hlen uY) hr hF hb (λH hO hS=>Pm w H a ns hlen hO hS) λH e s'=>ky w H s₁ e s'
noncomputable def xi(s:Stmt):Arguments:=match s with
 |.FunctionDef _ a _ _ _ _ _ _ _ _=>a
 |_=>{ posonlyargs:=[],args:=[],vararg:=none,kwonlyargs:=[],kw_defaults:=[],kwarg:=none,defaults:=[] }
noncomputable def af(s:Stmt):List Stmt:=match s with
 |.FunctionDef _ _ b _ _ _ _ _ _ _=>b
 |_=>[]
noncomputable def Ac(s:Stmt):Scope:=match s with
 |.FunctionDef _ _ _ _ _ _ sc _ _ _=>sc
 |_=>{ kind:=.function,names:=[],isGenerator:=false,isCoroutine:=false }
noncomputable abbrev uf:rh:=λ_ _ _ _ _ _=>False
noncomputable abbrev E0:XK:=λ_ _ _=>False
theorem OC{X:Cx}:Passes uf X E0:=λ_ _ _ _ _ _ _ h=>h.elim
structure Si(K:Frag)(x qual:Str)(st:Stmt)(f:Addr)(fd:FuncData):Prop where
 ex:∃(oc:Value) (od:Option Addr) (kV doc pm:Value) (an:Option Addr) (cdv ct:Value) (osl:Array (Option Value)),
  fd=fnOf x qual (xi st) (af st) (Ac st) .none kV doc pm an cdv ct/\K.lookup f=some ⟨oc,od,.func fd,osl⟩/\codeIn K cdv qual=true
 kp:keepIn K (.ref f)=true
section
variable{P:Program}{w:World}{K:Frag}{mg:O0}{base:Heap}
theorem Si.ok{x qual:Str}{st:Stmt}{f:Addr}{fd:FuncData}{N ps:Q0}{k:Nat}{sp:Sp}(F:Si K x qual st f fd)(S:yj N ps (Ac st))(len:∀vs H Q E,sp vs H Q E->vs.length=ps.length)(sB:∀(cdv:Value) (A:Around) (outer:List Env) (s:Shared) (H:Hp) (vs:U0) (Q:VK) (E:XK),rc k (A.deeper (envOfC qual (Ac st) s.heap.objs.size f cdv))->sp vs H Q E->∃t,Pe (Kg uf P w K mg base N qual (Ac st) f cdv A outer s H E).qc (af st) t/\t { nx:=λ_ H'=>Q .non H',rt:=Q } (start N vs) H):Ce P w K mg base uf (k+1) f fd ps sp:=by obtain⟨oc,od,kV,doc,pm,an,cdv,ct,osl,rfl,lk,Mb⟩:=F.ex;refine zC lk Mb S len λA outer s H vs Q E hr Pm=>?_;obtain⟨t,h,q⟩:=sB cdv A outer s H vs Q E hr Pm;exact⟨t,h.qc,q⟩
theorem Si.binds{x qual:Str}{st:Stmt}{f:Addr}{fd:FuncData}{ps:Q0}(F:Si K x qual st f fd)(h:∀(kV doc pm:Value) (an:Option Addr) (cdv ct:Value) (us:P0),us.length=ps.length->bindArgs (fnOf x qual (xi st) (af st) (Ac st) .none kV doc pm an cdv ct) ⟨us,[]⟩=pure (ps.zip us)):Binds K fd ps []:=by obtain⟨oc,od,kV,doc,pm,an,cdv,ct,osl,rfl,lk,Mb⟩:=F.ex;exact .all (h kV doc pm an cdv ct)
theorem QC{x qual:Str}{st:Stmt}{f:Addr}{oc:Value}{od an:Option Addr}{osl:Array (Option Value)}{kV doc pm cdv ct:Value}(l:K.lookup f=some ⟨oc,od,.func (fnOf x qual (xi st) (af st) (Ac st) .none kV doc pm an cdv ct),osl⟩)(c:codeIn K cdv qual=true)(k:keepIn K (.ref f)=true):Si K x qual st f (fnOf x qual (xi st) (af st) (Ac st) .none kV doc pm an cdv ct):=⟨⟨oc,od,kV,doc,pm,an,cdv,ct,osl,rfl,l,c⟩,k⟩
end
section
variable{X:Cx}
theorem pv(i:Nat){x:Str}{pos:Pos}(hN:X.N[i]?=some x:=by rfl)(hv:ju X.env.scope x:=by first|exact Or.inl rfl|exact Or.inr (Or.inl rfl)|exact Or.inr (Or.inr rfl))(hd:(x==("__debug__":Str))=false:=by decide)(Mb:(x==("__classdict__":Str))=false:=by decide):PE X (.Name x pos) (UB i):=kf hN hv hd Mb
end
theorem Uo{A B:Prop}(h:B):if false=true then A else B:=by rw[B2 Z6];exact h
theorem dn{A B:Prop}(h:A):if true=true then A else B:=by rw[Q1 rfl];exact h
noncomputable def Same(H H':Hp):Prop:=∀b o,H b=some o->H' b=some o
theorem Same.refl(H:Hp):Same H H:=λ_ _ h=>h
theorem Same.trans{H H1 H2:Hp}(a:Same H H1)(b:Same H1 H2):Same H H2:=λc o h=>b c o (a c o h)
theorem Same.free{H H':Hp}(e:Same H H'){l:Addr}(h:H' l=Option.none):H l=Option.none:=by
 cases q:H l with
 |none=>rfl
 |some o=>rw[e l o q]at h;cases h
theorem Same.seq{K:Frag}{H H':Hp}{a:Addr}{xs:U0}(e:Same H H')(h:Cc K H a xs):Cc K H' a xs:=by
 rcases h with(h|⟨o,h⟩)|h
 .exact .inl (.inl (e _ _ h))
 .exact .inl (.inr ⟨o,e _ _ h⟩)
 .exact .inr h
section
variable{κ:Type}[DecidableEq κ]
noncomputable def Kh(kvs:List (κ×V))(k:κ):Option V:=(kvs.find? λkv=>decide (kv.1=k)).map (·.2)
noncomputable def putK(kvs:List (κ×V))(k:κ)(v:V):List (κ×V):=
 if(kvs.any λkv=>decide (kv.1=k))=true then kvs.map (λkv=>if kv.1=k then(kv.1,v)else kv)else kvs++[(k,v)]
noncomputable def vF(kvs:List (κ×V))(k:κ):List (κ×V):=kvs.filter λkv=>decide (kv.1≠k)
theorem Dz{p:κ×V}{r:List (κ×V)}{k:κ}(e:p.1=k):Kh (p::r) k=some p.2:=by simp[Kh,S5,e]
theorem Ez{p:κ×V}{r:List (κ×V)}{k:κ}(e:¬p.1=k):Kh (p::r) k=Kh r k:=by simp[Kh,S5,e]
theorem wF(k:κ):∀kvs:List (κ×V),(kvs.any λkv=>decide (kv.1=k))=(Kh kvs k).isSome
 |[]=>rfl
 |p::r=>by
  rw[o5];by_cases e:p.1=k
  .simp only[Dz e,K2 e,Bool.true_or,Zak]
  .rw[Ez e,O2 e,f9];exact wF k r
theorem Fz(kvs:List (κ×V))(k:κ)(v:V):(putK kvs k v).length<=kvs.length+1:=by
 unfold putK;split
 .rw[Y0];omega
 .rw[U2,W4,K8];omega
theorem ui.Gz{o:Option V}{u:Option Value}(r:ui o u):o.isSome=u.isSome:=by
 cases o with
 |none=>cases u with
  |none=>rfl
  |some _=>exact(show False from r).elim
 |some _=>cases u with
  |none=>exact(show False from r).elim
  |some _=>rfl
theorem ui.getD{o:Option V}{u:Option Value}{d:V}{d':Value}(r:ui o u)(rd:RelV d d'):RelV (o.getD d) (u.getD d'):=by
 cases o with
 |none=>cases u with
  |none=>exact rd
  |some _=>exact(show False from r).elim
 |some _=>cases u with
  |none=>exact(show False from r).elim
  |some _=>exact r
theorem KV.val{kvs:List (κ×V)}{vs:List (κ×Value)}(r:KV kvs vs)(k:κ):ui (Kh kvs k) (valueAt vs k):=by
 unfold KV at r;induction r with
 |nil=>exact True.intro
 |@cons p q ps qs h t ih=>
  obtain⟨h1,h2⟩:=h;by_cases e:p.1=k
  .have e':q.1=k:=h1.symm.trans e;have b:valueAt (q::qs) k=some q.2:=by simp[valueAt,S5,e']
   rw[Dz e,b];exact h2
  .have e':¬q.1=k:=λz=>e (h1.trans z);have b:valueAt (q::qs) k=valueAt qs k:=by simp[valueAt,S5,e']
   rw[Ez e,b];exact ih
theorem KV.any{kvs:List (κ×V)}{vs:List (κ×Value)}(r:KV kvs vs)(k:κ):(kvs.any λkv=>decide (kv.1=k))=vs.any λkv=>decide (kv.1=k):=by
 unfold KV at r;induction r with
 |nil=>rfl
 |cons h t ih=>rw[o5,o5,ih,h.1]
theorem KV.repl{kvs:List (κ×V)}{vs:List (κ×Value)}(r:KV kvs vs)(k:κ){y:V}{u:Value}(ry:RelV y u):KV (kvs.map λkv=>if kv.1=k then(kv.1,y)else kv) (vs.map λkv=>if kv.1=k then(kv.1,u)else kv):=by
 unfold KV at r |-;induction r with
 |nil=>exact .nil
 |@cons p q ps qs h t ih=>
  rw[V1,V1];refine .cons ?_ ih;obtain⟨h1,h2⟩:=h;by_cases e:p.1=k
  .rw[Q1 e,Q1 (h1.symm.trans e)];exact⟨h1,ry⟩
  .rw[B2 e,B2 (λz=>e (h1.trans z))];exact⟨h1,h2⟩
theorem KV.put{kvs:List (κ×V)}{vs:List (κ×Value)}(r:KV kvs vs)(k:κ){y:V}{u:Value}(ry:RelV y u):KV (putK kvs k y) (stored vs k u):=by
 unfold putK stored;rw[r.any k];by_cases e:(vs.any λkv=>decide (kv.1=k))=true
 .rw[Q1 e,Q1 e];exact r.repl k ry
 .rw[B2 e,B2 e];exact Paired.snoc r ⟨rfl,ry⟩
theorem KV.drop{kvs:List (κ×V)}{vs:List (κ×Value)}(r:KV kvs vs)(k:κ):KV (vF kvs k) (without vs k):=by
 unfold KV at r |-;unfold vF without;induction r with
 |nil=>exact .nil
 |@cons p q ps qs h t ih=>
  obtain⟨h1,h2⟩:=h;rw[b6,b6];by_cases e:p.1=k
  .have a:¬decide (p.1≠k)=true:=by simp[e]
   have b:¬decide (q.1≠k)=true:=by simp[h1.symm.trans e]
   rw[B2 a,B2 b];exact ih
  .have e':¬q.1=k:=λz=>e (h1.trans z);have a:decide (p.1≠k)=true:=by simp[e]
   have b:decide (q.1≠k)=true:=by simp[e']
   rw[Q1 a,Q1 b];exact .cons ⟨h1,h2⟩ ih
theorem KV.keys{kvs:List (κ×V)}{vs:List (κ×Value)}(r:KV kvs vs):kvs.map (·.1)=vs.map (·.1):=by
 unfold KV at r;induction r with
 |nil=>rfl
 |cons h t ih=>rw[V1,V1,ih,h.1]
theorem KV.length{kvs:List (κ×V)}{vs:List (κ×Value)}(r:KV kvs vs):kvs.length=vs.length:=Paired.length r
end
theorem Wp{P:Program}{w:World}{k:Key}{u:Value}(r:RelV (kV k) u):(sf P w).is k u=true:=by
 cases k with
 |inl i=>obtain⟨t,e⟩:=(show ∃t,u=Value.int i t from r);subst e;exact OJ P w i t
 |inr x=>obtain⟨t,e⟩:=(show ∃t,u=Value.str x t from r);subst e;exact PJ P w x t
theorem xF{P:Program}{w:World}:∀{ks:List Key} {us:P0},Vals (ks.map kV) us->ItemsAre (sf P w) ks us
 |[],_,r=>by rw[V6]at r;cases r;exact .nil
 |k::ks,_,r=>by
  rw[V1]at r;cases r with
  |cons h t=>exact .cons (Wp h) (xF t)
noncomputable abbrev KT(H:Hp):List (List Key×V)->List (List Key×Addr×Value)->Prop:=Paired λp q=>p.1=q.1/\H q.2.1=some (.tup (p.1.map kV))/\RelV p.2 q.2.2
theorem KT.val{H:Hp}{kvs:List (List Key×V)}{xs:List (List Key×Addr×Value)}(r:KT H kvs xs)(k:List Key):ui (Kh kvs k) ((atKey xs k).map (·.2)):=by
 induction r with
 |nil=>exact True.intro
 |@cons p q ps qs h t ih=>
  obtain⟨h1,_,h2⟩:=h;by_cases e:p.1=k
  .have e':q.1=k:=h1.symm.trans e;have b:atKey (q::qs) k=some q.2:=by simp[atKey,S5,e']
   rw[Dz e,b];exact h2
  .have e':¬q.1=k:=λz=>e (h1.trans z);have b:atKey (q::qs) k=atKey qs k:=by simp[atKey,S5,e']
   rw[Ez e,b];exact ih
theorem KT.repl{H:Hp}{kvs:List (List Key×V)}{xs:List (List Key×Addr×Value)}(r:KT H kvs xs)(k:List Key){y:V}{u:Value}(ry:RelV y u):KT H (kvs.map λkv=>if kv.1=k then(kv.1,y)else kv) (xs.map (putAt k u)):=by
 induction r with
 |nil=>exact .nil
 |@cons p q ps qs h t ih=>
  rw[V1,V1];refine .cons ?_ ih;obtain⟨h1,h2,h3⟩:=h;unfold putAt;by_cases e:p.1=k
  .rw[Q1 e,Q1 (h1.symm.trans e)];exact⟨h1,h2,ry⟩
  .rw[B2 e,B2 (λz=>e (h1.trans z))];exact⟨h1,h2,h3⟩
theorem KT.put{H:Hp}{kvs:List (List Key×V)}{xs:List (List Key×Addr×Value)}(r:KT H kvs xs)(k:List Key){b:Addr}{y:V}{u:Value}(hb:H b=some (.tup (k.map kV)))(ry:RelV y u):KT H (putK kvs k y) (storedH xs k b u):=by
 have e:(kvs.any λkv=>decide (kv.1=k))=(atKey xs k).isSome:=by rw[wF,(r.val k).Gz,Zaw]
 unfold putK storedH;rw[e];by_cases q:(atKey xs k).isSome=true
 .rw[Q1 q,Q1 q];exact r.repl k ry
 .rw[B2 q,B2 q];exact Paired.snoc r ⟨rfl,hb,ry⟩
theorem KT.keeps{H H':Hp}{kvs:List (List Key×V)}{xs:List (List Key×Addr×Value)}(r:KT H kvs xs)(ht:∀b ys,H b=some (.tup ys)->H' b=some (.tup ys)):KT H' kvs xs:=
 Paired.Mx r λ_ _ z=>⟨z.1,ht _ _ z.2.1,z.2.2⟩
section
variable{P:Program}{w:World}{H:Hp}{h:Heap}{a:Addr}
theorem yF{u:HO}(ok:Dd P w H h)(e:Rd H a u):de P w H h a u:=e.ok ok
theorem ym{kvs:List (Key×V)}(ok:Dd P w H h)(e:Rd H a (.dK kvs)):kvs.length<=sizeLine/\(a==sysModules)=false/\∃vs,KV kvs vs/\h.DictOf (sf P w) a vs:=
 show de P w H h a (.dK kvs)from yF ok e
theorem zF{kvs:List (Key×V)}(ok:Dd P w H h)(e:H a=some (.dK kvs)):kvs.length<=sizeLine/\(a==sysModules)=false/\∃vs,KV kvs vs/\h.DictOf (sf P w) a vs:=ym ok (.inl e)
theorem Ds{ks:List Key}(ok:Dd P w H h)(e:H a=some (.tup (ks.map kV))):(tupleKind (sf P w)).is h ks a:=by
 obtain⟨_,its,r,o,h1,h2,n,h3⟩:=(show de P w H h a (.tup (ks.map kV))from ok a _ e)
 exact⟨o,its.toArray,n,h1,h2,h3,by simpa using xF r⟩
theorem Xp{kvs:List (List Key×V)}(ok:Dd P w H h)(e:Rd H a (.dT kvs)):kvs.length<=sizeLine/\(a==sysModules)=false/\∃xs,KT H kvs xs/\h.DictOfH (tupleKind (sf P w)) a xs:=by
 obtain⟨z,y,xs,r,o,es,ep,h1,h2,h3,h4,h5⟩:=(show de P w H h a (.dT kvs)from yF ok e)
 refine⟨z,y,xs,r,o,es,ep,h1,h2,h3,h4,λx hx=>?_,h5⟩;have all:∀{l:List (List Key×V)} {m:List (List Key×Addr×Value)},KT H l m->∀x∈m,(tupleKind (sf P w)).is h x.1 x.2.1:=by
  intro l m q;induction q with
  |nil=>intro x hx;exact nomatch hx
  |@cons p q ps qs hq t ih=>
   intro x hx;rcases T1.mp hx with e|hx
   .subst e;exact Ds ok (by rw[<-hq.1];exact hq.2.1)
   .exact ih x hx
 exact all r x hx
theorem xQ{kvs:List (List Key×V)}(ok:Dd P w H h)(e:H a=some (.dT kvs)):kvs.length<=sizeLine/\(a==sysModules)=false/\∃xs,KT H kvs xs/\h.DictOfH (tupleKind (sf P w)) a xs:=Xp ok (.inl e)
end
noncomputable def fj(H:Hp)(a:Addr)(y:V)(r:Option V):Prop:=
 (∃kvs k,Rd H a (.dK kvs)/\y=kV k/\r=Kh kvs k)\/∃kvs k b,Rd H a (.dT kvs)/\y=.ref b/\H b=some (.tup (k.map kV))/\r=Kh kvs k
noncomputable def Es(H:Hp)(a:Addr)(y v:V)(H':Hp):Prop:=
 (∃kvs k,H a=some (.dK kvs)/\y=kV k/\kvs.length<sizeLine/\H'=upd H a (.dK (putK kvs k v)))\/
 ∃kvs k b,H a=some (.dT kvs)/\y=.ref b/\H b=some (.tup (k.map kV))/\kvs.length<sizeLine/\H'=upd H a (.dT (putK kvs k v))
theorem fj.k{H:Hp}{a:Addr}{kvs:List (Key×V)}{k:Key}(e:H a=some (.dK kvs)):fj H a (kV k) (Kh kvs k):=.inl ⟨kvs,k,.inl e,rfl,rfl⟩
theorem Es.k{H:Hp}{a:Addr}{kvs:List (Key×V)}{k:Key}{v:V}(e:H a=some (.dK kvs))(hl:kvs.length<sizeLine):Es H a (kV k) v (upd H a (.dK (putK kvs k v))):=.inl ⟨kvs,k,e,rfl,hl,rfl⟩
section
variable{X:Cx}{pins:M0}{σ:St}{H:Hp}{s:Shared}{a:Addr}{y v:V}{u r:Value}{o:Option V}{A:Around}{E:N0}
theorem Inv.big(I:Inv X pins σ H s):sysModules<s.heap.objs.size:=by have h:mainGlobals<s.heap.objs.size:=(I.mod.glob.keeps I.bk).lt;exact F9 (by decide) h
theorem yQ{Q:N0}(hu:A.units+1<cLine)(I:Inv X pins σ H s)(g:fj H a y (some v))(ry:RelV y u)(h:∀w' s',Inv X pins σ H s'->RelV v w'->Q w' s'):wpAny (model X.prog X.w) A (getItem (.ref a) u) Q E s:=by
 rcases g with⟨kvs,k,e,ey,l⟩|⟨kvs,k,b,e,ey,eb,l⟩
 .subst ey;obtain⟨z,hd,vs,rel,dd⟩:=ym I.Va e;obtain⟨w',hw,Vf⟩:=ui.some_of (v:=v) (o:=valueAt vs k) (by rw[l];exact rel.val k);exact wpAny_getItem_of (Wp ry) dd.mapOf hw (h w' _ (I.tok _) Vf)
 .subst ey;cases(show u=Value.ref b from ry);obtain⟨z,hd,xs,rel,dd⟩:=Xp I.Va e;obtain⟨w',hw,Vf⟩:=ui.some_of (v:=v) (o:=(atKey xs k).map (·.2)) (by rw[l];exact rel.val k);obtain⟨p,hp,si⟩:=v6.mp hw;refine wpAny_getItem_heap (W6 hu) (Ds I.Va eb) dd hp ?_;rw[si];exact h w' _ (I.tok _) Vf
theorem zQ{Q:N0}(hu:A.units+1<cLine)(I:Inv X pins σ H s)(g:fj H a y o)(ry:RelV y u)(h:∀s',Inv X pins σ H s'->Q (.bool o.isSome) s'):wpAny (model X.prog X.w) A (compareOp .In u (.ref a)) Q E s:=by
 rcases g with⟨kvs,k,e,ey,l⟩|⟨kvs,k,b,e,ey,eb,l⟩
 .subst ey;obtain⟨z,hd,vs,rel,dd⟩:=ym I.Va e;refine wpAny_in_of (Wp ry) hd dd.mapOf ?_;rw[<-(rel.val k).Gz,<-l];exact h _ (I.tok _)
 .subst ey;cases(show u=Value.ref b from ry);obtain⟨z,hd,xs,rel,dd⟩:=Xp I.Va e;refine wpAny_in_heap (W6 hu) (Ds I.Va eb) hd dd ?_;have q:=(rel.val k).Gz;rw[Zaw]at q;rw[<-q,<-l];exact h _ (I.tok _)
theorem Hz{h':Heap}{t':Nat}{ob:HO}(I:Inv X pins σ H s)(mu:Qq (H a))(hs:Heap.SameBut a s.heap h')(he:∃q,h'.get? a=some q)(new:de X.prog X.w (upd H a ob) h' a ob):Inv X pins σ (upd H a ob) { s with heap:=h',toks:=t' }:=
 I.write (x:=a) (e:=a) mu (.inl rfl) (λb q hb z=>(hs.2 b hb).trans z) he new
theorem Iz{P:Program}{w:World}{H':Hp}{h':Heap}{kvs:List (Key×V)}{vs:List (Key×Value)}(z:kvs.length<=sizeLine)(hd:(a==sysModules)=false)(rel:KV kvs vs)(dd:h'.DictOf (sf P w) a vs):de P w H' h' a (.dK kvs):=⟨z,hd,vs,rel,dd⟩
theorem AQ{H':Hp}{Q:Unit->Shared->Prop}(hu:A.units+1<cLine)(I:Inv X pins σ H s)(g:Es H a y v H')(ry:RelV y u)(rv:RelV v r)(h:∀s',Inv X pins σ H' s'->Q () s'):wpAny (model X.prog X.w) A (setItem (.ref a) u r) Q E s:=by
 rcases g with⟨kvs,k,e,ey,l,eH⟩|⟨kvs,k,b,e,ey,eb,l,eH⟩
 .subst ey eH;obtain⟨z,hd,vs,rel,dd⟩:=zF I.Va e;have hz:vs.length<=sizeLine:=by rw[<-rel.length];exact z
  have hl:(putK kvs k v).length<=sizeLine:=by have:=Fz kvs k v;omega
  refine wpAny_setItem_pairs (hsz:=hz) (Wp ry) dd λh' Vk hs=>h _ ?_;have he:∃q,h'.get? a=some q:=let ⟨q,_,_,hq,_⟩:=Vk;⟨q,hq⟩;exact Hz I (by rw[e];exact True.intro) hs he (Iz hl hd (rel.put k rv) Vk)
 .subst ey eH;cases(show u=Value.ref b from ry);obtain⟨z,hd,xs,rel,dd⟩:=xQ I.Va e;have hz:xs.length<=sizeLine:=by rw[<-Paired.length rel];exact z
  have hl:(putK kvs k v).length<=sizeLine:=by have:=Fz kvs k v;omega
  refine wpAny_setItem_heap (hsz:=hz) (W6 hu) (Ds I.Va eb) dd λh' Vk hs=>h _ ?_;obtain⟨q,es,ep,hq,h2,h3,h4,_,h5⟩:=Vk;refine Hz I (by rw[e];exact True.intro) hs ⟨q,hq⟩ ⟨hl,hd,_,(rel.put k eb rv).keeps λc ys ec=>?_,q,es,ep,hq,h2,h3,h4,h5⟩;rw[rb (QJ ec e (λz=>nomatch z))];exact ec
end
section
variable{X:Cx}{pins:M0}{σ:St}{H:Hp}{s:Shared}{a:Addr}{kvs:List (Key×V)}{k:Key}{u:Value}{A:Around}{E:N0}
theorem BQ{Q:N0}(I:Inv X pins σ H s)(e:Rd H a (.dK kvs))(h:∀t s',Inv X pins σ H s'->Q (.int kvs.length t) s'):wpAny (model X.prog X.w) A (call (.builtin "len") [.ref a]) Q E s:=by obtain⟨z,hd,vs,rel,dd⟩:=ym I.Va e;refine call_len_dict hd dd (by rw[<-rel.length];rw[M3]at z;omega) ?_;rw[<-rel.length];exact h _ _ (I.tok _)
end
noncomputable def Jz(i:Expr):Prop:=∀ov iv,subscripted i false ov iv=operate [ov,iv] (getItem ov iv)
theorem DQ{prog:Program}{w:World}{A:Around}{E:N0}{s:Shared}{env:Env}{value slice:Expr}{pos:Pos}{T id:String}{Q:N0}(hl:typeLookup (.type T) "__getitem__"=pure (some (.builtin id)))(hs:Jz slice)(h:wpAny (model prog w) A (eval value env) (λo s₁=>wpAny (model prog w) A (eval slice env) (λi s₂=>s₂.TypeIs o T/\wpAny (model prog w) A (getItem o i) Q E s₂) E s₁) E s):wpAny (model prog w) A (eval (.Subscript value slice pos) env) Q E s:=by
 refine Zah (K3 h (λo s₁ h₁=>K3 h₁ (λi s₂ h₂=>?_) λ_ _ x=>x) λ_ _ x=>x);obtain⟨hT,h₂⟩:=h₂;unfold subscriptTail;refine X0 ?_;rw[getitemInPython_of_ne hT.not_modules];refine X0 (wpAny_specialOf hT hl ?_);have fin:wpAny (model prog w) A (subscripted slice false o i) (λr s₃=>wpAny (model prog w) A (letTemporaryGo value o r >>= λ_=>pure r) Q E s₃) E s₂:=by rw[hs o i];exact wpAny_operating (K3 h₂ (λr s₃ h₃=>X0 (wpAny_letTemporaryGo (G1 h₃))) λ_ _ x=>x)
 first
  |exact G1 (X0 fin)
  |exact X0 (G1 (X0 fin))
  |exact X0 fin
theorem EQ{X:Cx}{pins:M0}{σ:St}{H:Hp}{s:Shared}{a:Addr}{y:V}{o:Option V}(I:Inv X pins σ H s)(g:fj H a y o):s.TypeIs (.ref a) "dict":=by
 rcases g with⟨kvs,k,e,_,_⟩|⟨kvs,k,b,e,_,_,_⟩
 .obtain⟨_,_,vs,_,dd⟩:=ym I.Va e;exact dd.typeIs
 .obtain⟨_,_,xs,_,dd⟩:=Xp I.Va e;exact dd.typeIs
noncomputable def FQ(td ty:TE):TE:=λσ H Q=>td σ H λx H1=>ty σ H1 λy H2=>∃a v,x=.ref a/\fj H2 a y (some v)/\Q v H2
noncomputable def GQ(ty td:TE):TE:=λσ H Q=>ty σ H λy H1=>td σ H1 λx H2=>∃a o,x=.ref a/\fj H2 a y o/\Q (.bl o.isSome) H2
noncomputable def Xk(td ty tv:TE):TS:=λD σ H=>tv σ H λv H1=>td σ H1 λx H2=>ty σ H2 λy H3=>∃a H4,x=.ref a/\Es H3 a y v H4/\D.nx σ H4
section
variable{X:Cx}{o i e value:Expr}{pos pos' tpos:Pos}{td ty tv:TE}
theorem HQ(hu:X.A.units+1<cLine)(ho:PE X o td)(hi:PE X i ty)(hs:Jz i):PE X (.Subscript o i pos) (FQ td ty):=by intro pins s σ H Q I h;refine DQ PySem.F.slot_dict_getitem.lookup hs (Ua (ho pins s σ H _ I h) λu s1 ⟨x,H1,I1,rx,q1⟩=>Ua (hi pins s1 σ H1 _ I1 q1) λiv s2 ⟨y,H2,I2,ry,a,v,ex,g,q2⟩=>?_);subst ex;obtain rfl:u=Value.ref a:=rx;exact⟨EQ I2 g,yQ hu I2 g ry λw' s3 I3 Vf=>⟨v,H2,I3,Vf,q2⟩⟩
theorem IQ(hu:X.A.units+1<cLine)(hi:PE X i ty)(ho:PE X o td):PC X .In i o (GQ ty td):=by intro pins s σ H Q I h;refine Ua (hi pins s σ H _ I h) λiv s1 ⟨y,H1,I1,ry,q1⟩=>Ua (ho pins s1 σ H1 _ I1 q1) λu s2 ⟨x,H2,I2,rx,a,ov,ex,g,q2⟩=>?_;subst ex;obtain rfl:u=Value.ref a:=rx;exact zQ hu I2 g ry λs3 I3=>⟨.bl ov.isSome,H2,I3,rfl,q2⟩
theorem Fs(hu:X.A.units+1<cLine)(ho:PE X o td)(hi:PE X i ty)(hv:PE X value tv)(hs:swapsWith value (some (.Subscript o i pos')) pos.line X.env=pure false):PS X (.Assign [.Subscript o i pos'] value pos) (Xk td ty tv):=by intro pins s σ H D I h;refine wpAny_Assign_Subscript (Ua (hv pins s σ H _ I h) λr s1 ⟨v,H1,I1,rv,q1⟩=>Ua (ho pins s1 σ H1 _ I1 q1) λu s2 ⟨x,H2,I2,rx,q2⟩=>Ua (hi pins s2 σ H2 _ I2 q2) λiv s3 ⟨y,H3,I3,ry,a,H4,ex,g,q3⟩=>?_) hs;subst ex;obtain rfl:u=Value.ref a:=rx;exact AQ hu I3 g ry rv λs4 I4=>⟨σ,H4,I4,q3⟩
end
theorem AF{P:Program}{w:World}{H:Hp}(h:Heap)(hb:sysModules<h.objs.size):de P w H (h.push { cls:=.type "dict",data:=.dict #[] }) h.objs.size (.dK []):=
 ⟨V3 _,g5.mpr (U3 (J2 hb)),[],.nil,Heap.DictOf.new h⟩
noncomputable def JQ:TE:=λ_ H Q=>∀p,H p=none->Q (.ref p) (upd H p (.dK []))
section
variable{X:Cx}{pos:Pos}
theorem KQ:PE X (.Dict [] [] pos) JQ:=λpins s σ H Q I h=>
 wpAny_Dict_empty ⟨.ref s.heap.objs.size,_,I.laid (a:=s.heap.objs.size) (o:=.dK []) (t':=s.toks) (λ_ _ q=>B1 _ q) (O1 _) (AF s.heap I.big),rfl,h _ (I.Va.fresh (O1 _))⟩
end
noncomputable def Kz:List (TE×TE)->St->Hp->(List (V×V)->Hp->Prop)->Prop
 |[],_,H,Q=>Q [] H
 |(tk,tv)::r,σ,H,Q=>tk σ H λx H1=>tv σ H1 λy H2=>Kz r σ H2 λps H3=>Q ((x,y)::ps) H3
noncomputable abbrev VV:List (V×V)->List (Value×Value)->Prop:=Paired λp q=>RelV p.1 q.1/\RelV p.2 q.2
noncomputable def Lv(X:Cx)(pos:Pos)(keys:List (Option Expr))(values:T0)(Yk:List (TE×TE)):Prop:=
 ∀(pins:M0) (s:Shared) (σ:St) (H:Hp) (Q:List (V×V)->Hp->Prop),Inv X pins σ H s->Kz Yk σ H Q->
  wpAny (model X.prog X.w) X.A (evalPairs (pairTrees keys values X.env pos)) (λvs s'=>∃ps H',Inv X pins σ H' s'/\VV ps vs/\Q ps H') X.xe s
theorem LQ{X:Cx}{pos:Pos}:Lv X pos [] [] []:=λpins s σ H Q I h=>pairTrees_nil_walk ⟨[],H,I,.nil,h⟩
theorem MQ{X:Cx}{pos:Pos}{k v:Expr}{ks:List (Option Expr)}{vs:T0}{tk tv:TE}{Yk:List (TE×TE)}(hk:PE X k tk)(hv:PE X v tv)(hr:Lv X pos ks vs Yk):Lv X pos (some k::ks) (v::vs) ((tk,tv)::Yk):=λpins s σ H Q I h=>
 pairTrees_cons_walk (Ua (hk pins s σ H _ I h) λu s1 ⟨x,H1,I1,rx,q1⟩=>Ua (hv pins s1 σ H1 _ I1 q1) λw2 s2 ⟨y,H2,I2,ry,q2⟩=>
  Ua (hr pins s2 σ H2 _ I2 q2) λws s3 ⟨ps,H3,I3,rel,q3⟩=>⟨(x,y)::ps,H3,I3,.cons ⟨rx,ry⟩ rel,q3⟩)
noncomputable def Gs(kvs more:List (Key×V)):List (Key×V):=more.foldl (λacc kv=>putK acc kv.1 kv.2) kvs
theorem KV.merge:∀{more:List (Key×V)} {rs:List (Key×Value)} {kvs:List (Key×V)} {vs:List (Key×Value)},KV more rs->KV kvs vs->KV (Gs kvs more) (merged vs rs):=by
 intro more rs kvs vs r;unfold KV at r;induction r generalizing kvs vs with
 |nil=>intro q;exact q
 |@cons p q ps qs h t ih=>
  intro r0;have e:KV (putK kvs p.1 p.2) (stored vs q.1 q.2):=by have:=r0.put p.1 h.2;rw[<-h.1];exact this
  exact ih e
theorem DF:∀(more kvs:List (Key×V)),(Gs kvs more).length<=kvs.length+more.length
 |[],kvs=>by show kvs.length<=kvs.length+0;omega
 |p::r,kvs=>by have h1:=DF r (putK kvs p.1 p.2);have h2:=Fz kvs p.1 p.2;show(Gs (putK kvs p.1 p.2) r).length<=_;rw[W4];omega
theorem EF{P:Program}{w:World}:∀{kvs:List (Key×V)} {ws:List (Value×Value)},VV (kvs.map λkv=>(kV kv.1,kv.2)) ws->∃rs,Carries (sf P w) ws rs/\KV kvs rs
 |[],_,r=>by rw[V6]at r;cases r;exact⟨[],True.intro,.nil⟩
 |p::kvs,_,r=>by
  rw[V1]at r;cases r with
  |@cons a b as bs h t=>obtain⟨rs,c,q⟩:=EF (P:=P) (w:=w) t;obtain⟨b1,b2⟩:=b;exact⟨(p.1,b2)::rs,⟨Wp h.1,rfl,c⟩,.cons ⟨rfl,h.2⟩ q⟩
noncomputable def NQ(Yk:List (TE×TE)):TE:=λσ H Q=>∀p,H p=none->Kz Yk σ (upd H p (.dK [])) λps H2=>H2 p=some (.dK [])/\∃kvs:List (Key×V),ps=kvs.map (λkv=>(kV kv.1,kv.2))/\kvs.length<=15/\Q (.ref p) (upd H2 p (.dK (Gs [] kvs)))
theorem OQ{X:Cx}{pos:Pos}{keys:List (Option Expr)}{values:T0}{Yk:List (TE×TE)}(h:Lv X pos keys values Yk)(vB:keys.all (·.isSome)=true)(hl:keys.length=values.length)(h0:keys≠[])(OY:keys.length<=15):PE X (.Dict keys values pos) (NQ Yk):=by
 intro pins s σ H Q I q;have hn:=I.Va.fresh (O1 s.heap.objs.size);have I1:=I.laid (a:=s.heap.objs.size) (o:=.dK []) (h':=s.heap.push { cls:=.type "dict",data:=.dict #[] }) (t':=s.toks) (λ_ _ q=>B1 _ q) (O1 _) (AF s.heap I.big);refine wpAny_Dict_walk (knd:=sf X.prog X.w) vB hl h0 OY (Ua (h pins _ σ _ _ I1 (q _ hn)) λws s2 ⟨ps,H2,I2,rel,e,kvs,ep,lk,q2⟩=>?_);subst ep;obtain⟨rs,c,rk⟩:=EF (P:=X.prog) (w:=X.w) rel;obtain⟨z,hd,EZ,r0,dd⟩:=zF I2.Va e;cases r0;refine⟨rs,c,dd,λh' Vk hs=>⟨.ref s.heap.objs.size,_,?_,rfl,q2⟩⟩;have hz:(Gs [] kvs).length<=sizeLine:=by have h1:=DF kvs [];rw[K8]at h1;rw[M3];omega
 have he:∃q,h'.get? s.heap.objs.size=some q:=let ⟨q,_,_,hq,_⟩:=Vk;⟨q,hq⟩;exact Hz I2 (by rw[e];exact True.intro) hs he (Iz hz hd (rk.merge .nil) Vk)
structure M2(X:Cx)(o:Expr)(m:Str)(apos:Pos)(e f:Expr)(cpos:Pos):Prop where
 base:attributeBase o m X.env (eval o X.env)=eval o X.env
 few:((backTo cpos (starEach [e,f] X.env)).all (λx=>!x.1)&&(backToKw cpos (keywordEach [] X.env)).all (λx=>x.1.isSome)
  && decide (([e,f]:T0).length+([]:List Keyword).length+(if([]:List Keyword).isEmpty then 0 else 1)<30))=true
 line:(apos.endLine==cpos.line)=true
 trees:backTo cpos (starEach [e,f] X.env)=[(false,eval e X.env),(false,eval f X.env)]
noncomputable def FF(H:Hp)(a:Addr):Prop:=(∃kvs,Rd H a (.dK kvs))\/∃kvs,Rd H a (.dT kvs)
theorem PQ{X:Cx}{pins:M0}{σ:St}{H:Hp}{s:Shared}{a:Addr}(I:Inv X pins σ H s)(d:FF H a):s.TypeIs (.ref a) "dict"/\(∀b,Value.ref a=.ref b->∃ob,s.heap.get? b=some ob/\ob.dict=none)/\(a==sysModules)=false:=by
 rcases d with⟨kvs,e⟩|⟨kvs,e⟩
 .obtain⟨_,hd,vs,_,dd⟩:=ym I.Va e;refine⟨dd.typeIs,λb q=>?_,hd⟩;cases q;obtain⟨ob,_,_,h1,h2,_⟩:=dd;exact⟨ob,h1,h2.2.1⟩
 .obtain⟨_,hd,xs,_,dd⟩:=Xp I.Va e;refine⟨dd.typeIs,λb q=>?_,hd⟩;cases q;obtain⟨ob,_,_,h1,h2,_⟩:=dd;exact⟨ob,h1,h2.2.1⟩
section
variable{X:Cx}{pins:M0}{σ:St}{H:Hp}{s:Shared}{a:Addr}{y d:V}{u r:Value}{o:Option V}{A:Around}{E:N0}
theorem QQ{Q:N0}(hu:A.units+1<cLine)(I:Inv X pins σ H s)(g:fj H a y o)(ry:RelV y u)(rd:RelV d r)(h:∀w' s',Inv X pins σ H s'->RelV (o.getD d) w'->Q w' s'):wpAny (model X.prog X.w) A (call (.builtin "dict.get") [.ref a,u,r]) Q E s:=by
 rcases g with⟨kvs,k,e,ey,l⟩|⟨kvs,k,b,e,ey,eb,l⟩
 .subst ey;obtain⟨z,hd,vs,rel,dd⟩:=ym I.Va e;refine call_meetsIn T7 dd.typeIs B9 (l9 _ _ _) (meets_dict_get_default (sf X.prog X.w) a (Wp ry) hd r) ⟨_,dd.mapOf,h _ _ (I.tok _) ?_⟩;rw[l];exact(rel.val k).getD rd
 .subst ey;cases(show u=Value.ref b from ry);obtain⟨z,hd,xs,rel,dd⟩:=Xp I.Va e;refine call_meetsIn T7 dd.typeIs B9 (l9 _ _ _) (meetsH_dict_get_default (tupleKind (sf X.prog X.w)) a b hd r) ⟨W6 hu,k,xs,Ds I.Va eb,dd,h _ _ (I.tok _) ?_⟩;rw[l];exact(rel.val k).getD rd
end
noncomputable def RQ(td ty tx:TE):TE:=λσ H Q=>td σ H λx H1=>∃a,x=.ref a/\FF H1 a/\ty σ H1 λy H2=>tx σ H2 λz H3=>∃o,fj H3 a y o/\Q (o.getD z) H3
section
variable{X:Cx}{o e f:Expr}{apos cpos:Pos}{td ty tx:TE}
theorem SQ(hu:X.A.units+1<cLine)(ho:PE X o td)(he:PE X e ty)(hf:PE X f tx)(m:M2 X o "get" apos e f cpos):PE X (.Call (.Attribute o "get" apos) [e,f] [] cpos) (RQ td ty tx):=by
 intro pins s σ H Q I h;refine wpAny_Call_method m.base m.few m.line PySem.F.plainAttrs_dict T7 PySem.F.type_dict_get (Ua (ho pins s σ H _ I h) λu s1 ⟨x,H1,I1,rx,a,ex,d,q1⟩=>?_);subst ex;obtain rfl:u=Value.ref a:=rx;obtain⟨t1,t2,_⟩:=PQ I1 d;refine⟨t1,t2,?_⟩;rw[m.trees];refine M9 rfl (b8 (j6 (Ua (he pins s1 σ H1 _ I1 q1) λiv s2 ⟨y,H2,I2,ry,q2⟩=>
  j6 (Ua (hf pins s2 σ H2 _ I2 q2) λfv s3 ⟨z,H3,I3,rz,ov,g,q3⟩=>d7 ?_))))
 exact QQ hu I3 g ry rz λw' s4 I4 Vf=>⟨_,H3,I4,Vf,q3⟩
end
section
variable{X:Cx}{pins:M0}{σ:St}{H:Hp}{s:Shared}{a:Addr}{kvs:List (Key×V)}{A:Around}{E:N0}
theorem TQ{Q:N0}(I:Inv X pins σ H s)(e:Rd H a (.dK kvs))(h:∀p s',H p=none->Inv X pins σ (upd H p (.dK kvs)) s'->Q (.ref p) s'):wpAny (model X.prog X.w) A (call (.type "dict") [.ref a]) Q E s:=by obtain⟨z,hd,vs,rel,dd⟩:=ym I.Va e;refine kt_call_dict hd dd (by rw[<-rel.length];exact z) λh' Vk hs=>?_;refine h _ _ (I.Va.fresh (O1 _)) (I.laid (a:=s.heap.objs.size) (o:=.dK kvs) (t':=s.toks) (λb q hq=>?_) (O1 _) (Iz z (g5.mpr (U3 (J2 I.big))) rel Vk));exact(hs.2 b (J2 (N1 hq))).trans (B1 _ hq)
end
end L2
namespace PV
open L2 (Ac Ak Au Bu Cc Ce Cx Dd E0 EP Ek Gl HO Hp IC Inv It Key Kg Kh Lb OC PA PE PG PS PT PW Pe Pl Po Px QC Qd Qe Qx R2 RelV Ri Rl Ro SP Same Sd Si Sp TA TE TS TT To Tq Turn Un Uo V VB VK Vals Vc WB XK Xq Xx Yq ZB Ze Zm aC af bC de dn fj frs jC jd jy kC kf mC nu putK qh qu rb rc set_list sf tu uf uj upd uu vi wj xi yj zj zk)
theorem Cb{A1 A2 A3 A4 A5 A6:Type}{P Q R:A1->A2->A3->A4->A5->A6->Prop}{Z:Prop}(h:∃a b c d e f,P a b c d e f/\Q a b c d e f/\R a b c d e f)(k:∀a b c d e f,P a b c d e f->Q a b c d e f->R a b c d e f->Z):Z:=by obtain⟨a,b,c,d,e,f,p,q,r⟩:=h;exact k a b c d e f p q r
theorem qd{A1 A2 A3 A4 A5 A6 A7:Type}{P Q R:A1->A2->A3->A4->A5->A6->A7->Prop}{Z:Prop}(h:∃a b c d e f g,P a b c d e f g/\Q a b c d e f g/\R a b c d e f g)(k:∀a b c d e f g,P a b c d e f g->Q a b c d e f g->R a b c d e f g->Z):Z:=by obtain⟨a,b,c,d,e,f,g,p,q,r⟩:=h;exact k a b c d e f g p q r
open PySem (Str)
inductive D where
 |non|bl (b:Bool)|int (i:Int)|str (x:Str)|lst (xs:(List D))|tup (xs:(List D))|dct (kvs:List (Int×Int))
 deriving Inhabited
abbrev _root_.W0:=List D
abbrev _root_.V0:=List D->Option D
inductive Sl where
 |un|sh (d:D)|fr (d:D)|ow (ds:W0)|tab (rows:List W0)|dc (kvs:List (Int×Int))|nw (ds:W0)|jk (d:D)|jl (n:Nat)|xc (c:Nat)
 deriving Inhabited
noncomputable def lim:Nat:=100000
mutual
noncomputable def D.dep:D->Nat
 |.lst xs=>D.deps xs+1
 |.tup xs=>D.deps xs+1
 |.dct _=>100
 |_=>0
noncomputable def D.deps:W0->Nat
 |[]=>0
 |x::xs=>max (D.dep x) (D.deps xs)
end
mutual
noncomputable def Pb:D->D->Bool
 |.non,.non=>true
 |.bl a,.bl b=>a==b
 |.bl a,.int b=>(if a then 1 else 0)==b
 |.int a,.bl b=>a==(if b then 1 else 0)
 |.int a,.int b=>a==b
 |.str a,.str b=>a==b
 |.lst a,.lst b=>lf a b
 |.tup a,.tup b=>lf a b
 |.dct a,.dct b=>decide (a=b)
 |_,_=>false
noncomputable def lf:W0->W0->Bool
 |[],[]=>true
 |x::xs,y::ys=>Pb x y&&lf xs ys
 |_,_=>false
end
noncomputable abbrev Env:=List Sl
noncomputable abbrev Ex:=Env->Option D
noncomputable abbrev Tx:=Env->Option Bool
noncomputable abbrev Lx:=Env->Option W0
noncomputable def Sl.val:Sl->Option D
 |.un=>none
 |.sh d=>some d
 |.fr d=>some d
 |.ow ds=>some (.lst ds)
 |.tab rows=>some (.lst (rows.map .lst))
 |.nw ds=>some (.lst ds)
 |_=>none
noncomputable def Sl.shd:Sl->Option D
 |.sh d=>some d
 |.fr d=>some d
 |_=>none
noncomputable def eC(d:D):Ex:=λ_=>some d
noncomputable def aa(i:Nat):Ex:=λenv=>env[i]?.bind Sl.shd
noncomputable def Sl.rM:Sl->Option D
 |.fr d=>some d
 |_=>none
noncomputable def rg(i:Nat):Ex:=λenv=>env[i]?.bind Sl.rM
noncomputable def Ed(i:Nat):Ex:=λenv=>env[i]?.bind Sl.val
noncomputable def Sl.vo:Sl->Option D
 |.sh d=>some d
 |.fr d=>some d
 |.ow ds=>some (.lst ds)
 |.nw ds=>some (.lst ds)
 |_=>none
noncomputable def ar(i:Nat):Ex:=λenv=>env[i]?.bind Sl.vo
noncomputable def Ma(f:Int->Int->Option D)(a b:Ex):Ex:=λenv=>match a env,b env with
 |some (.int i),some (.int j)=>f i j
 |_,_=>none
noncomputable def Lg(i j:Int):Option D:=some (.int (i-j))
noncomputable def Td(i j:Int):Option D:=if(-18446744073709551616<i/\i<18446744073709551616)\/(-18446744073709551616<j/\j<18446744073709551616)then some (.int (i*j))else none
noncomputable def Gb(i j:Int):Option D:=if 0<j then some (.int (i%j))else none
noncomputable def je(i j:Int):Option D:=if 0<j/\j<1073741824 then some (.int (i/j))else none
noncomputable def gn(i j:Int):Option D:=if 0<=j/\j<=1000/\-1000<=i/\i<=1000 then some (.int (i^j.toNat))else none
noncomputable def br(i j:Int):Option D:=some (.int (if j>i then j else i))
noncomputable def Ob(p:Int->Int->Bool)(a b:Ex):Tx:=λenv=>match a env,b env with
 |some (.int i),some (.int j)=>some (p i j)
 |_,_=>none
noncomputable def ug(i j:Int):Bool:=decide (i<j)
noncomputable def Ld(i j:Int):Bool:=decide (j<i)
noncomputable def gr(i j:Int):Bool:=decide (j<=i)
noncomputable def Ra(a b:Ex):Tx:=λenv=>match a env,b env with
 |some x,some y=>if x.dep<=8/\y.dep<=8 then some (Pb x y)else none
 |_,_=>none
noncomputable def Cd(a b:Ex):Tx:=λenv=>match a env,b env with
 |some x,some y=>if x.dep<=8/\y.dep<=8 then some (!Pb x y)else none
 |_,_=>none
noncomputable def inD(x:D)(ys:W0):Bool:=ys.any λy=>Pb y x
noncomputable def Fu(a b:Ex):Tx:=λenv=>match a env,b env with
 |some x,some (.lst ys)=>if D.deps ys<=8/\x.dep<=8 then some (inD x ys)else none
 |some x,some (.tup ys)=>if D.deps ys<=8/\x.dep<=8 then some (inD x ys)else none
 |_,_=>none
noncomputable def yi(a b:Ex):Tx:=λenv=>match Fu a b env with
 |some k=>some (!k)
 |none=>none
noncomputable def D.Ul:D->Bool
 |.non=>true
 |_=>false
noncomputable def vk(a:Ex):Tx:=λenv=>match a env with
 |some x=>some x.Ul
 |none=>none
noncomputable def uh(a:Ex):Tx:=λenv=>match a env with
 |some x=>some (!x.Ul)
 |none=>none
noncomputable def Kc(a b:Tx):Tx:=λenv=>match a env with
 |some true=>b env
 |some false=>some false
 |none=>none
noncomputable def Nf(a b:Tx):Tx:=λenv=>match a env with
 |some true=>some true
 |some false=>b env
 |none=>none
noncomputable def Ye(a:Tx):Tx:=λenv=>match a env with
 |some k=>some (!k)
 |none=>none
noncomputable def tB(a:Ex):Tx:=λenv=>match a env with
 |some (.bl k)=>some k
 |_=>none
noncomputable def eB(a:Tx):Ex:=λenv=>match a env with
 |some k=>some (.bl k)
 |none=>none
noncomputable def evs:List Ex->Env->Option W0
 |[],_=>some []
 |e::es,env=>match e env,evs es env with
  |some d,some ds=>some (d::ds)
  |_,_=>none
noncomputable def Xa(es:List Ex):Ex:=λenv=>match evs es env with
 |some ds=>some (.lst ds)
 |none=>none
noncomputable def vf(es:List Ex):Ex:=λenv=>match evs es env with
 |some ds=>some (.tup ds)
 |none=>none
noncomputable def Fa(φ:V0)(es:List Ex):Ex:=λenv=>match evs es env with
 |some ds=>φ ds
 |none=>none
noncomputable def za(φ:D->Option D)(a:Ex):Ex:=λenv=>match a env with
 |some x=>φ x
 |none=>none
noncomputable def De(φ:D->D->Option D)(a b:Ex):Ex:=λenv=>match a env,b env with
 |some x,some y=>φ x y
 |_,_=>none
noncomputable def we(n:Nat)(i:Int):Option Nat:=if 0<=i then(if i<n then some i.toNat else none)else if -(n:Int)<=i then some (i+n).toNat else none
noncomputable def Fk(xs:W0)(i:Int):Option D:=(we xs.length i).bind λj=>xs[j]?
noncomputable def Vo:D->D->Option D
 |.lst xs,.int i=>Fk xs i
 |.tup xs,.int i=>Fk xs i
 |_,_=>none
noncomputable def Ka(a b:Ex):Ex:=De Vo a b
noncomputable def jn:D->D->Option D
 |.int i,.int j=>some (.int (i+j))
 |.lst xs,.lst ys=>if xs.length+ys.length<=lim then some (.lst (xs++ys))else none
 |_,_=>none
noncomputable def ib(a b:Ex):Ex:=De jn a b
noncomputable def Ta:D->Option D
 |.lst xs=>some (.int xs.length)
 |.tup xs=>some (.int xs.length)
 |_=>none
noncomputable def Je:D->Option D
 |.lst xs=>some (.lst xs)
 |.tup xs=>some (.lst xs)
 |_=>none
noncomputable def Fb(n d:Nat):Option Int->Nat
 |none=>d
 |some i=>if i<0 then(i+n).toNat else min i.toNat n
noncomputable def cutD(xs:W0)(lo hi:Option Int):W0:=(xs.drop (Fb xs.length 0 lo)).take (Fb xs.length xs.length hi-Fb xs.length 0 lo)
noncomputable def Wo(x:D)(lo hi:Option Int):Option D:=match x with
 |.lst xs=>some (.lst (cutD xs lo hi))
 |.tup xs=>if Fb xs.length 0 lo=0/\Fb xs.length xs.length hi=xs.length then none else some (.tup (cutD xs lo hi))
 |_=>none
noncomputable def vg:Env->Option (Option Int):=λ_=>some none
noncomputable def Wf(a:Ex):Env->Option (Option Int):=λenv=>match a env with
 |some (.int i)=>some (some i)
 |_=>none
noncomputable def Xf(a:Ex)(lo hi:Env->Option (Option Int)):Ex:=λenv=>match a env,lo env,hi env with
 |some x,some l,some h=>Wo x l h
 |_,_,_=>none
noncomputable def allB:W0->Option Bool
 |[]=>some true
 |.bl b::xs=>match allB xs with
  |some c=>some (b&&c)
  |none=>none
 |_::_=>none
noncomputable def Pf:D->Option D
 |.lst xs=>match allB xs with
  |some b=>some (.bl b)
  |none=>none
 |_=>none
noncomputable def anyB:W0->Option Bool
 |[]=>some false
 |.bl b::xs=>match anyB xs with
  |some c=>some (b||c)
  |none=>none
 |_::_=>none
noncomputable def ir:D->Option D
 |.lst xs=>match anyB xs with
  |some b=>some (.bl b)
  |none=>none
 |_=>none
noncomputable def Xd:W0->Option K0
 |[]=>some []
 |.int i::xs=>match Xd xs with
  |some r=>some (i::r)
  |none=>none
 |_::_=>none
noncomputable def wf(σ:K0)(v:Int):K0:=if v∈σ then σ else σ++[v]
noncomputable def seen(vs:K0):K0:=vs.foldl wf []
noncomputable def ln(x:Int):K0->K0
 |[]=>[x]
 |y::ys=>if x<=y then x::y::ys else y::ln x ys
noncomputable def Wc:K0->K0
 |[]=>[]
 |x::xs=>ln x (Wc xs)
noncomputable def Gk:D->Option D
 |.lst xs=>match Xd xs with
  |some ns=>if ns.length<=3000/\(seen ns).length<64 then some (.lst ((Wc (seen ns)).map .int))else none
  |none=>none
 |_=>none
noncomputable def Tb:K0->K0->Bool
 |[],[]=>false
 |[],_::_=>true
 |_::_,[]=>false
 |x::xs,y::ys=>if x=y then Tb xs ys else decide (x<y)
noncomputable def Aj{α:Type}(k:α->K0)(x:α):List α->List α
 |[]=>[x]
 |y::ys=>if Tb (k y) (k x)then y::Aj k x ys else x::y::ys
noncomputable def vh{α:Type}(k:α->K0):List α->List α
 |[]=>[]
 |x::xs=>Aj k x (vh k xs)
noncomputable def Mg:D->Option K0
 |.lst xs=>Xd xs
 |_=>none
noncomputable def mn:W0->Option J0
 |[]=>some []
 |x::xs=>match Mg x,mn xs with
  |some r,some rs=>some (r::rs)
  |_,_=>none
noncomputable def Ng:D->Option D
 |.lst xs=>match Xd xs with
  |some ns=>if ns.length<64 then some (.lst ((Wc ns).map .int))else none
  |none=>match mn xs with
   |some rs=>if rs.length<64 then some (.lst ((vh (λr=>r) rs).map λr=>.lst (r.map .int)))else none
   |none=>none
 |_=>none
noncomputable def jr:D->Option K0
 |.tup [.int n,.lst xs]=>match Xd xs with
  |some r=>some (n::r)
  |none=>none
 |_=>none
noncomputable def Bj(φ:V0):W0->Option (List (K0×D))
 |[]=>some []
 |x::xs=>match φ [x],Bj φ xs with
  |some k,some ks=>match jr k with
   |some l=>some ((l,x)::ks)
   |none=>none
  |_,_=>none
noncomputable def xh:D->Bool
 |.lst _=>false
 |.tup _=>false
 |.dct _=>false
 |_=>true
noncomputable def Ti(f:Ex):Ex:=λenv=>match f env with
 |some d=>if xh d then some d else none
 |none=>none
noncomputable def yh(f:Ex):Ex:=λenv=>match f env with
 |some (.lst ds)=>if ds.all xh then some (.lst ds)else none
 |_=>none
noncomputable def on(x:D):W0->Option Nat
 |[]=>none
 |y::ys=>if Pb y x then some 0 else match on x ys with
  |some j=>some (j+1)
  |none=>none
noncomputable def Gu:D->D->Option D
 |.lst ys,x=>if D.deps ys<=8/\x.dep<=8 then(match on x ys with
  |some j=>some (.int j)
  |none=>none)else none
 |_,_=>none
noncomputable def Db(a:Ex):Lx:=λenv=>match a env with
 |some (.lst xs)=>some xs
 |some (.tup xs)=>some xs
 |_=>none
noncomputable def cc(lo:Int)(n:Nat):W0:=(List.range n).map λk=>.int (lo+(k:Nat))
noncomputable def vb(a:Ex):Lx:=λenv=>match a env with
 |some (.int j)=>if -(lim:Int)<=j/\j<=lim then some (cc 0 j.toNat)else none
 |_=>none
noncomputable def bn(a b:Ex):Lx:=λenv=>match a env,b env with
 |some (.int i),some (.int j)=>if -(lim:Int)<=i/\i<=lim/\-(lim:Int)<=j/\j<=lim then some (cc i (j-i).toNat)else none
 |_,_=>none
noncomputable def Vl:D->Option D
 |.int j=>if -(lim:Int)<=j/\j<=lim then some (.lst (cc 0 j.toNat))else none
 |_=>none
noncomputable def yf(i:Nat)(c:Tx)(e:Ex)(env:Env):W0->Option W0
 |[]=>some []
 |d::ds=>match c (env.set i (.sh d))with
  |some true=>match e (env.set i (.sh d)),yf i c e env ds with
   |some x,some xs=>some (x::xs)
   |_,_=>none
  |some false=>yf i c e env ds
  |none=>none
noncomputable def xb:Tx:=λ_=>some true
noncomputable def cb(i:Nat)(it:Lx)(c:Tx)(e:Ex):Ex:=λenv=>match it env with
 |some ds=>if ds.length<=lim then(match yf i c e env ds with
  |some xs=>some (.lst xs)
  |none=>none)else none
 |none=>none
inductive Out where
 |nx|bk|ct|rt (d:D)
noncomputable abbrev St:=Env->Option (Out×Env)
noncomputable def Qa:St:=λenv=>some (.nx,env)
noncomputable def Sa(i:Nat)(e:Ex):St:=λenv=>match e env with
 |some d=>some (.nx,env.set i (.sh d))
 |none=>none
noncomputable def zh(i:Nat)(e:Ex):St:=λenv=>match e env with
 |some d=>some (.nx,env.set i (.fr d))
 |none=>none
noncomputable def mf(i:Nat)(e:Ex):St:=λenv=>match e env with
 |some (.lst ds)=>some (.nx,env.set i (.ow ds))
 |_=>none
noncomputable def Xo:W0->Option (List W0)
 |[]=>some []
 |.lst r::xs=>match Xo xs with
  |some rs=>some (r::rs)
  |none=>none
 |_::_=>none
noncomputable def Cj(i:Nat)(e:Ex):St:=λenv=>match e env with
 |some (.lst ds)=>match Xo ds with
  |some rs=>some (.nx,env.set i (.tab rs))
  |none=>none
 |_=>none
noncomputable def Yc(i:Nat):St:=λenv=>match env[i]? with
 |some (.ow ds)=>some (.nx,env.set i (.sh (.lst ds)))
 |some (.tab rs)=>some (.nx,env.set i (.sh (.lst (rs.map .lst))))
 |some (.nw ds)=>some (.nx,env.set i (.fr (.lst ds)))
 |some (.dc kvs)=>some (.nx,env.set i (.sh (.dct kvs)))
 |some (.sh _)=>some (.nx,env)
 |some (.fr _)=>some (.nx,env)
 |_=>none
noncomputable def Sh(i:Nat)(e:Ex):St:=λenv=>match env[i]?,e env with
 |some (.ow ds),some d=>if ds.length<lim then some (.nx,env.set i (.ow (ds++[d])))else none
 |_,_=>none
noncomputable def sNew(i:Nat)(e:Ex):St:=λenv=>match e env with
 |some (.lst ds)=>some (.nx,env.set i (.nw ds))
 |_=>none
noncomputable def Ai(i:Nat)(e:Ex):St:=λenv=>match env[i]?,e env with
 |some (.nw ds),some d=>if ds.length<lim then some (.nx,env.set i (.nw (ds++[d])))else none
 |_,_=>none
noncomputable def kr(i:Nat)(e:Ex):St:=λenv=>match env[i]?,e env with
 |some (.ow ds),some (.lst xs)=>if ds.length+xs.length<=lim then some (.nx,env.set i (.ow (ds++xs)))else none
 |_,_=>none
noncomputable def Yo(i:Nat)(a e:Ex):St:=λenv=>match env[i]?,a env,e env with
 |some (.ow ds),some (.int k),some d=>if 0<=k/\k<=ds.length/\ds.length<lim then some (.nx,env.set i (.ow (ds.insertIdx k.toNat d)))else none
 |_,_,_=>none
noncomputable def Zo(i:Nat)(a e:Ex):St:=λenv=>match env[i]?,e env,a env with
 |some (.ow ds),some d,some (.int k)=>match we ds.length k with
  |some j=>some (.nx,env.set i (.ow (ds.set j d)))
  |none=>none
 |_,_,_=>none
noncomputable def Ui(i:Nat)(a b e:Ex):St:=λenv=>match env[i]?,e env,a env,b env with
 |some (.tab rs),some d,some (.int k),some (.int l)=>match we rs.length k with
  |some j=>match rs[j]? with
   |some r=>match we r.length l with
    |some m=>some (.nx,env.set i (.tab (rs.set j (r.set m d))))
    |none=>none
   |none=>none
  |none=>none
 |_,_,_,_=>none
noncomputable def md(e:Ex):St:=λenv=>match e env with
 |some _=>some (.nx,env)
 |none=>none
noncomputable def Na(e:Ex):St:=λenv=>match e env with
 |some d=>some (.rt d,env)
 |none=>none
noncomputable def bp(i:Nat):St:=λenv=>match env[i]? with
 |some (.tab rs)=>some (.rt (.lst (rs.map .lst)),env)
 |_=>none
noncomputable def ua(a b:St):St:=λenv=>match a env with
 |some (.nx,Hk)=>b Hk
 |r=>r
noncomputable def Za(c:Tx)(a b:St):St:=λenv=>match c env with
 |some true=>a env
 |some false=>b env
 |none=>none
noncomputable def Bi:St:=λ_=>none
noncomputable abbrev Tg:=D->Env->Option Env
noncomputable def gN(i:Nat):Tg:=λd env=>some (env.set i (.sh d))
noncomputable def g2(i j:Nat):Tg:=λd env=>match d with
 |.tup [x,y]=>some ((env.set i (.sh x)).set j (.sh y))
 |_=>none
noncomputable def forL(g:Tg)(b:St):W0->St
 |[],env=>some (.nx,env)
 |d::ds,env=>match g d env with
  |some e0=>match b e0 with
   |some (.nx,e1)=>forL g b ds e1
   |some (.ct,e1)=>forL g b ds e1
   |some (.bk,e1)=>some (.nx,e1)
   |some (.rt r,e1)=>some (.rt r,e1)
   |none=>none
  |none=>none
noncomputable def yb(g:Tg)(it:Lx)(b:St):St:=λenv=>match it env with
 |some ds=>forL g b ds env
 |none=>none
noncomputable def Yf(c:Tx)(b:St):Nat->St
 |0,_=>none
 |n+1,env=>match c env with
  |some true=>match b env with
   |some (.nx,e1)=>Yf c b n e1
   |some (.ct,e1)=>Yf c b n e1
   |some (.bk,e1)=>some (.nx,e1)
   |some (.rt r,e1)=>some (.rt r,e1)
   |none=>none
  |some false=>some (.nx,env)
  |none=>none
noncomputable def enter(n:Nat)(ds:W0):Env:=ds.map .sh++List.replicate (n-ds.length) .un
noncomputable def run(p n:Nat)(g:St)(ds:W0):Option D:=if ds.length=p then(match g (enter n ds)with
 |some (.rt d,_)=>some d
 |some (.nx,_)=>some .non
 |_=>none)else none
structure Yb(S:List Nat)(env env0:Env):Prop where
 len:env.length=env0.length
 out:∀i,i∉S->env[i]?=env0[i]?
theorem Yb.refl(S:List Nat)(env:Env):Yb S env env:=⟨rfl,λ_ _=>rfl⟩
theorem Yb.trans{S:List Nat}{a b c:Env}(h:Yb S a b)(k:Yb S b c):Yb S a c:=⟨h.len.trans k.len,λi hi=>(h.out i hi).trans (k.out i hi)⟩
theorem Yb.set{S:List Nat}{a b:Env}(h:Yb S a b){i:Nat}(hi:i∈S)(s:Sl):Yb S (a.set i s) b:=
 ⟨by rw[P2];exact h.len,λj hj=>by rw[Q2 (by rintro rfl;exact hj hi)];exact h.out j hj⟩
theorem Yb.mono{S T:List Nat}{a b:Env}(h:Yb S a b)(st:∀i∈S,i∈T):Yb T a b:=⟨h.len,λi hi=>h.out i λz=>hi (st i z)⟩
theorem Hu{env:Env}{i:Nat}{s:Sl}(h:i<env.length):(env.set i s)[i]?=some s:=by rw[W2 h]
theorem Dj{env:Env}{i j:Nat}{s:Sl}(h:i≠j):aa j (env.set i s)=aa j env:=by unfold aa;rw[Q2 h]
theorem Ah{env:Env}{i:Nat}{d:D}(h:i<env.length):aa i (env.set i (.sh d))=some d:=by unfold aa;rw[Hu h];rfl
theorem Yb.var{S:List Nat}{a b:Env}(h:Yb S a b){i:Nat}(hi:i∉S):aa i a=aa i b:=by unfold aa;rw[h.out i hi]
theorem Yb.sM{S:List Nat}{a b:Env}(h:Yb S a b){i:Nat}(hi:i∉S):Ed i a=Ed i b:=by unfold Ed;rw[h.out i hi]
theorem Jc{a b:St}{env e1:Env}(h:a env=some (.nx,e1)):ua a b env=b e1:=by unfold ua;rw[h]
theorem Wl{a b:St}{env e1:Env}{r:D}(h:a env=some (.rt r,e1)):ua a b env=some (.rt r,e1):=by unfold ua;rw[h]
theorem rn{c:Tx}{a b:St}{env:Env}(h:c env=some true):Za c a b env=a env:=by unfold Za;rw[h]
theorem wg{c:Tx}{a b:St}{env:Env}(h:c env=some false):Za c a b env=b env:=by unfold Za;rw[h]
theorem Vi{g:Tg}{it:Lx}{b:St}{env:Env}{ds:W0}(h:it env=some ds):yb g it b env=forL g b ds env:=by unfold yb;rw[h]
theorem zf{e:Ex}{env:Env}{d:D}(h:e env=some d):Na e env=some (.rt d,env):=by unfold Na;rw[h]
theorem Wi{i:Nat}{e:Ex}{env:Env}{d:D}(h:e env=some d):Sa i e env=some (.nx,env.set i (.sh d)):=by unfold Sa;rw[h]
theorem vn{e:Ex}{env:Env}{d:D}(h:e env=some d):md e env=some (.nx,env):=by unfold md;rw[h]
theorem Th{env:Env}:Qa env=some (.nx,env):=rfl
theorem Zd{p n:Nat}{g:St}{ds:W0}{r:D}{e1:Env}(hp:ds.length=p)(h:g (enter n ds)=some (.rt r,e1)):run p n g ds=some r:=by unfold run;rw[Q1 hp,h]
theorem Iu{p n:Nat}{g:St}{ds:W0}{e1:Env}(hp:ds.length=p)(h:g (enter n ds)=some (.nx,e1)):run p n g ds=some .non:=by unfold run;rw[Q1 hp,h]
theorem Nd{φ:V0}{a:Ex}{env:Env}{x:D}(h:a env=some x):Fa φ [a] env=φ [x]:=by simp[Fa,evs,h]
theorem uc{φ:V0}{a b:Ex}{env:Env}{x y:D}(h:a env=some x)(h2:b env=some y):Fa φ [a,b] env=φ [x,y]:=by simp[Fa,evs,h,h2]
theorem Xl{φ:V0}{a b c:Ex}{env:Env}{x y z:D}(h:a env=some x)(h2:b env=some y)(h3:c env=some z):Fa φ [a,b,c] env=φ [x,y,z]:=by simp[Fa,evs,h,h2,h3]
theorem Yl{φ:D->Option D}{a:Ex}{env:Env}{x:D}(h:a env=some x):za φ a env=φ x:=by simp[za,h]
theorem xn{g:Tg}{b:St}(P:Env->Prop)(q:D->Option D):∀(ds:W0) (env:Env),(∀d∈ds,∀env,P env->∃e0,g d env=some e0/\(∀r,q d=some r->∃e1,b e0=some (.rt r,e1))/\(q d=none->∃e1,b e0=some (.nx,e1)/\P e1))->P env->(∀r,ds.findSome? q=some r->∃e1,forL g b ds env=some (.rt r,e1))/\(ds.findSome? q=none->∃e1,forL g b ds env=some (.nx,e1)/\P e1)
 |[],env,_,p=>⟨λr h=>by simp at h,λ_=>⟨env,rfl,p⟩⟩
 |d::ds,env,h,p=>by
  obtain⟨e0,hg,h1,h2⟩:=h d W1 env p;cases hq:q d with
  |some r=>
   obtain⟨e1,hb⟩:=h1 r hq;refine⟨λr' hr=>?_,λhn=>?_⟩
   .rw[T6,hq]at hr;cases hr;exact⟨e1,by simp only[forL,hg,hb]⟩
   .rw[T6,hq]at hn;cases hn
  |none=>
   obtain⟨e1,hb,p1⟩:=h2 hq;have ih:=xn P q ds e1 (λd' Hf=>h d' (M1 _ Hf)) p1;have e:forL g b (d::ds) env=forL g b ds e1:=by simp only[forL,hg,hb]
   rw[e,T6,hq];exact ih
theorem lr{g : Tg}{b : St}{ds : W0}(I : Nat → Env → Prop)(step : ∀ k d env, ds[k]? = some d → I k env → ∃ e0 e1, g d env = some e0 ∧ b e0 = some (.nx, e1) ∧ I (k + 1) e1)(env : Env)(h0 : I 0 env): ∃ e1, forL g b ds env = some (.nx, e1) ∧ I ds.length e1 := by
  have go : ∀ (m k : Nat) (env : Env), k + m = ds.length → I k env → ∃ e1, forL g b (ds.drop k) env = some (.nx, e1) ∧ I ds.length e1 := by
    intro m
    induction m with
    | zero => intro k env hk hI; have : k = ds.length := by omega
              subst this; rw [c6]; exact ⟨env, rfl, hI⟩
    | succ m ih =>
      intro k env hk hI
      have Wa : k < ds.length := by omega
      obtain ⟨e0, e1, h1, h2, h3⟩ := step k ds[k] env (by simp [Wa]) hI
      rw [D4 Wa]
      simp only [forL, h1, h2]
      exact ih (k + 1) e1 (by omega) h3
  simpa using go ds.length 0 env (by omega) h0
theorem yn{i:Nat}{e:Ex}{env:Env}(F:D->D):∀(ds:W0),(∀d∈ds,e (env.set i (.sh d))=some (F d))->yf i xb e env ds=some (ds.map F)
 |[],_=>rfl
 |d::ds,h=>by simp only[yf,xb,h d W1,yn F ds λd' Hf=>h d' (M1 _ Hf),V1]
theorem RC{i:Nat}{c:Tx}{e:Ex}{env:Env}(p:D->Bool)(F:D->D):∀(ds:W0),(∀d∈ds,c (env.set i (.sh d))=some (p d))->(∀d∈ds,p d=true->e (env.set i (.sh d))=some (F d))->yf i c e env ds=some ((ds.filter p).map F)
 |[],_,_=>rfl
 |d::ds,h,k=>by
  have ih:=RC p F ds (λd' Hf=>h d' (M1 _ Hf)) (λd' Hf=>k d' (M1 _ Hf));cases hp:p d with
  |true=>simp only[yf,h d W1,hp,k d W1 hp,ih,B7,V1]
  |false=>simp[yf,h d W1,hp,ih]
theorem my{p:D->Bool}:∀ds:W0,allB (ds.map λd=>.bl (p d))=some (ds.all p)
 |[]=>rfl
 |d::ds=>by simp only[V1,allB,my ds,O6]
theorem Og(lo:Int)(n:Nat):(cc lo n).length=n:=by simp[cc]
theorem Zf{n:Nat}{d:D}(h:d∈cc 0 n):∃k:Nat,k<n/\d=.int k:=by simp only[cc,U1,j4]at h;obtain⟨k,hk,rfl⟩:=h;exact⟨k,hk,by simp⟩
theorem Ej{lo:Int}{n k:Nat}(h:k<n):(cc lo n)[k]?=some (.int (lo+k)):=by simp[cc,h]
theorem yc:lim=100000:=rfl
theorem Pg{e:Ex}{env:Env}{n:Nat}(h:e env=some (.int n))(hn:n<=1000):vb e env=some (cc 0 n):=by unfold vb;simp only[h];rw[Q1 ⟨by rw[yc];omega,by rw[yc];omega⟩];simp
noncomputable def ma(r:K0):D:=.lst (r.map .int)
noncomputable def la(T:J0):D:=.lst (T.map ma)
structure Tab(T:J0)(n:Nat):Prop where
 len:T.length=n
 row:∀r∈T,r.length=n
 ent:∀r∈T,∀x∈r,0<=x/\x<n
 pos:1<=n
 top:n<=12
noncomputable def tg(T:J0)(a b:Int):Int:=(T.getD a.toNat []).getD b.toNat 0
theorem TC{xs:W0}{j:Nat}{d:D}(h:xs[j]?=some d):Fk xs (j:Int)=some d:=by have hj:j<xs.length:=(P1.mp h).1;unfold Fk we;rw[Q1 (by omega),Q1 (by omega)];simpa using h
theorem Ju{r:K0}{b:Int}(h0:0<=b)(h1:b<r.length):Vo (ma r) (.int b)=some (.int (r.getD b.toNat 0)):=by
 obtain⟨k,rfl⟩:=n9 h0;have hk:k<r.length:=by omega
 show Fk _ _=_;rw[TC (d:=.int (r.getD k 0))]
 .simp
 .simp[hk,List.getD]
theorem UC{T:J0}{a:Int}(h0:0<=a)(h1:a<T.length):Vo (la T) (.int a)=some (ma (T.getD a.toNat [])):=by
 obtain⟨k,rfl⟩:=n9 h0;have hk:k<T.length:=by omega
 show Fk _ _=_;rw[TC (d:=ma (T.getD k []))]
 .simp
 .simp[hk,List.getD]
theorem Tab.gp{T:J0}{n:Nat}(h:Tab T n){a:Int}(h0:0<=a)(h1:a<n):(T.getD a.toNat []).length=n:=by
 have hk:a.toNat<T.length:=by have:=h.len;omega
 rw[K1,E1 hk];exact h.row _ (N3 hk)
theorem Tab.bound{T:J0}{n:Nat}(h:Tab T n){a b:Int}(h0:0<=a)(h1:a<n)(h2:0<=b)(h3:b<n):0<=tg T a b/\tg T a b<n:=by
 have hk:a.toNat<T.length:=by have:=h.len;omega
 have hl:=h.gp h0 h1;have hb:b.toNat<(T.getD a.toNat []).length:=by omega
 unfold tg;rw[K1 (l:=T.getD a.toNat []),E1 hb];refine h.ent _ ?_ _ (N3 hb);rw[K1,E1 hk];exact N3 hk
theorem Fj{T:J0}{n:Nat}(h:Tab T n){env:Env}{e0 e1 e2:Ex}{a b:Int}(k0:e0 env=some (la T))(k1:e1 env=some (.int a))(k2:e2 env=some (.int b))(h0:0<=a)(h1:a<n)(h2:0<=b)(h3:b<n):Ka (Ka e0 e1) e2 env=some (.int (tg T a b)):=by have hl:=h.gp h0 h1;unfold Ka De;simp only[k0,k1,k2,UC h0 (show a<T.length by rw[h.len];exact h1)];rw[Ju h2 (by rw[hl];exact h3)];rfl
theorem jp(T:J0):Ta (la T)=some (.int T.length):=by simp[la,Ta]
theorem oy(r:K0):Ta (ma r)=some (.int r.length):=by simp[ma,Ta]
mutual
theorem qy:∀d:D,Pb d d=true
 |.non=>by simp[Pb]
 |.bl _=>by simp[Pb]
 |.int _=>by simp[Pb]
 |.str _=>by simp[Pb]
 |.lst xs=>by simp only[Pb];exact sy xs
 |.tup xs=>by simp only[Pb];exact sy xs
 |.dct xs=>by simp[Pb]
theorem sy:∀ds:W0,lf ds ds=true
 |[]=>by simp[lf]
 |d::ds=>by simp only[lf,qy d,sy ds,Bool.and_self]
end
theorem Ku:∀xs:K0,D.deps (xs.map .int)=0
 |[]=>by simp[D.deps]
 |x::xs=>by simp[D.deps,D.dep,Ku xs]
theorem mr(r:K0):(ma r).dep=1:=by simp[ma,D.dep,Ku]
theorem VC:∀T:J0,D.deps (T.map ma)<=1
 |[]=>by simp[D.deps]
 |r::T=>by simp only[V1,D.deps,mr];have:=VC T;omega
theorem lp{a b:Ex}{env:Env}{i j:Int}(h1:a env=some (.int i))(h2:b env=some (.int j)):Ra a b env=some (i==j):=by simp[Ra,h1,h2,D.dep,Pb]
theorem uy{a b:Ex}{env:Env}{i j:Int}(h1:a env=some (.int i))(h2:b env=some (.int j)):Cd a b env=some (!(i==j)):=by simp[Cd,h1,h2,D.dep,Pb]
theorem tM{σ:K0}{v:Int}(h:σ.Nodup):(wf σ v).Nodup:=by
 unfold wf;split
 .exact h
 .rename_i hv;rw[K5];exact⟨h,by simp,λa ha b hb=>by simp at hb;subst hb;rintro rfl;exact hv ha⟩
theorem uM{σ:K0}{v x:Int}:x∈wf σ v↔x∈σ\/x=v:=by
 unfold wf;split
 .rename_i hv;exact⟨.inl,λh=>h.elim id λe=>e▸hv⟩
 .simp
theorem vy:∀(vs σ:K0),σ.Nodup->(vs.foldl wf σ).Nodup/\∀x,x∈vs.foldl wf σ↔x∈σ\/x∈vs
 |[],σ,h=>⟨h,λx=>by simp⟩
 |v::vs,σ,h=>by have ih:=vy vs (wf σ v) (tM h);refine⟨ih.1,λx=>?_⟩;rw[List.foldl_cons,ih.2 x,uM,T1,or_assoc]
theorem WC(vs:K0):(seen vs).Nodup:=(vy vs [] T8).1
theorem XC{vs:K0}{x:Int}:x∈seen vs↔x∈vs:=by have:=(vy vs [] T8).2 x;unfold seen;rw[this];simp
theorem vM(vs:K0)(v:Int):seen (vs++[v])=wf (seen vs) v:=by simp[seen]
theorem wM(σ:K0)(v:Int):(wf σ v).length<=σ.length+1:=by unfold wf;split<;>simp
theorem xM(vs:K0):(seen vs).length<=vs.length:=by
 have go:∀(vs σ:K0),(vs.foldl wf σ).length<=σ.length+vs.length:=by
  intro vs;induction vs with
  |nil=>intro σ;simp
  |cons v vs ih=>intro σ;have:=ih (wf σ v);have:=wM σ v;simp only[List.foldl_cons,W4];omega
 simpa[seen]using go vs []
theorem wy(x:Int):∀ys:K0,(ln x ys).Perm (x::ys)
 |[]=>.refl _
 |y::ys=>by
  unfold ln;split
  .exact .refl _
  .exact((wy x ys).cons y).trans (.swap x y ys)
theorem Af:∀xs:K0,(Wc xs).Perm xs
 |[]=>.refl _
 |x::xs=>(wy x (Wc xs)).trans ((Af xs).cons x)
theorem YC(x:Int):∀ys:K0,ys.Pairwise (·<=·)->(ln x ys).Pairwise (·<=·)
 |[],_=>by simp[ln]
 |y::ys,h=>by
  rw[Z3]at h;unfold ln;split
  .rename_i eJ;rw[Z3];refine⟨λz hz=>?_,Z3.mpr h⟩;rcases T1.mp hz with rfl|hz
   .exact eJ
   .have:=h.1 z hz;omega
  .rename_i eJ;rw[Z3];refine⟨λz hz=>?_,YC x ys h.2⟩;rcases T1.mp ((wy x ys).mem_iff.mp hz)with rfl|hz
   .omega
   .exact h.1 z hz
theorem An:∀xs:K0,(Wc xs).Pairwise (·<=·)
 |[]=>List.Pairwise.nil
 |x::xs=>YC x _ (An xs)
theorem ZC{a b:K0}(p:a.Perm b)(ha:a.Pairwise (·<=·)):a=Wc b:=
 (p.trans (Af b).symm).eq_of_pairwise (λx y _ _ h1 h2=>Int.le_antisymm h1 h2) ha (An b)
theorem qp{l:K0}{x:Int}:x∈Wc (seen l)↔x∈l:=by rw[(Af _).mem_iff,XC]
theorem nr{l:K0}(h:l.Pairwise (·<=·))(hn:l.Nodup):l.Pairwise (·<·):=
 (h.and hn).imp λ{a b} Ph=>by obtain⟨h1,h2⟩:=Ph;omega
theorem yM(l:K0):(Wc (seen l)).Pairwise (·<·):=nr (An _) ((Af _).nodup_iff.mpr (WC l))
theorem Zl{a b:K0}(ha:a.Pairwise (·<·))(hb:b.Pairwise (·<·))(h:∀x,x∈a↔x∈b):a=b:=by
 have na:a.Nodup:=ha.imp λ{x y} h e=>by omega
 have nb:b.Nodup:=hb.imp λ{x y} h e=>by omega
 exact((S8 na nb).mpr h).eq_of_pairwise (λx y _ _ h1 h2=>by omega) ha hb
theorem ints_map(r:K0):Xd (r.map .int)=some r:=by
 induction r with
 |nil=>rfl
 |cons x r ih=>simp[Xd,ih]
theorem Lu:∀x:K0,Tb x x=false
 |[]=>rfl
 |a::x=>by simp[Tb,Lu x]
theorem xy:∀{x y z:K0},Tb x y=true->Tb y z=true->Tb x z=true
 |[],[],z,h,_=>by simp[Tb]at h
 |[],b::y,[],_,h=>by simp[Tb]at h
 |[],b::y,c::z,_,_=>by simp[Tb]
 |a::x,[],z,h,_=>by simp[Tb]at h
 |a::x,b::y,[],_,h=>by simp[Tb]at h
 |a::x,b::y,c::z,h,k=>by
  simp only[Tb]at h k |-;by_cases e1:a=b
  .subst e1;rw[Q1 rfl]at h;by_cases e2:a=c
   .subst e2;rw[Q1 rfl]at k |-;exact xy h k
   .rw[B2 e2]at k |-;exact k
  .rw[B2 e1]at h;have h':=X2 h;by_cases e2:b=c
   .subst e2;rw[B2 e1];exact h
   .rw[B2 e2]at k;have k':=X2 k;rw[B2 (by omega)];exact K2 (by omega)
theorem Mu:∀x y:K0,Tb x y=false->Tb y x=false->x=y
 |[],[],_,_=>rfl
 |[],b::y,h,_=>by simp[Tb]at h
 |a::x,[],_,h=>by simp[Tb]at h
 |a::x,b::y,h,k=>by
  simp only[Tb]at h k;by_cases e:a=b
  .subst e;rw[Q1 rfl]at h k;rw[Mu x y h k]
  .rw[B2 e]at h;rw[B2 (λq=>e q.symm)]at k;have h':=Q3 h;have k':=Q3 k;omega
noncomputable def Jb(x y:K0):Prop:=Tb y x=false
theorem Jb.refl(x:K0):Jb x x:=Lu x
theorem Jb.of{x y:K0}(h:Tb x y=true):Jb x y:=by
 unfold Jb;cases k:Tb y x with
 |false=>rfl
 |true=>have:=xy h k;rw[Lu]at this;cases this
theorem Jb.trans{x y z:K0}(h:Jb x y)(k:Jb y z):Jb x z:=by
 unfold Jb at *;cases q:Tb z x with
 |false=>rfl
 |true=>
  cases e:Tb x y with
  |true=>have:=xy q e;rw[k]at this;cases this
  |false=>rw[Mu x y e h]at q;rw[k]at q;cases q
theorem Jb.anti{x y:K0}(h:Jb x y)(k:Jb y x):x=y:=Mu x y k h
theorem yy{α:Type}(key:α->K0)(x:α):∀ys:List α,(Aj key x ys).Perm (x::ys)
 |[]=>.refl _
 |y::ys=>by
  unfold Aj;split
  .exact((yy key x ys).cons y).trans (.swap x y ys)
  .exact .refl _
theorem Uh{α:Type}(key:α->K0):∀xs:List α,(vh key xs).Perm xs
 |[]=>.refl _
 |x::xs=>(yy key x _).trans ((Uh key xs).cons x)
theorem aD{α:Type}(key:α->K0)(x:α):∀ys:List α,ys.Pairwise (λa b=>Jb (key a) (key b))->(Aj key x ys).Pairwise (λa b=>Jb (key a) (key b))
 |[],_=>by simp[Aj]
 |y::ys,h=>by
  rw[Z3]at h;unfold Aj;split
  .rename_i hl;rw[Z3];refine⟨λz hz=>?_,aD key x ys h.2⟩;rcases T1.mp ((yy key x ys).mem_iff.mp hz)with rfl|hz
   .exact Jb.of hl
   .exact h.1 z hz
  .rename_i hl;have rf:Jb (key x) (key y):=by unfold Jb;simpa using hl
   rw[Z3];refine⟨λz hz=>?_,Z3.mpr h⟩;rcases T1.mp hz with rfl|hz
   .exact rf
   .exact rf.trans (h.1 z hz)
theorem pr{α:Type}(key:α->K0):∀xs:List α,(vh key xs).Pairwise (λa b=>Jb (key a) (key b))
 |[]=>List.Pairwise.nil
 |x::xs=>aD key x _ (pr key xs)
noncomputable def ev(e:Ex)(env:Env)(P:D->Prop):Prop:=∃d,e env=some d/\P d
noncomputable def zb(e:Ex)(env:Env)(P:Int->Prop):Prop:=∃i,e env=some (.int i)/\P i
noncomputable def Vb(e:Ex)(env:Env)(P:K0->Prop):Prop:=∃r,e env=some (ma r)/\P r
noncomputable def ag(e:Ex)(env:Env)(P:J0->Prop):Prop:=∃T,e env=some (la T)/\P T
noncomputable def tv(t:Tx)(env:Env)(P:Bool->Prop):Prop:=∃k,t env=some k/\P k
noncomputable def wp(s:St)(env:Env)(Q:Out->Env->Prop):Prop:=∃o e,s env=some (o,e)/\Q o e
theorem ev.mono{e:Ex}{env:Env}{P P':D->Prop}(h:ev e env P)(k:∀d,P d->P' d):ev e env P':=let ⟨d,a,b⟩:=h;⟨d,a,k d b⟩
theorem wp.mono{s:St}{env:Env}{Q Q':Out->Env->Prop}(h:wp s env Q)(k:∀o e,Q o e->Q' o e):wp s env Q':=let ⟨o,e,a,b⟩:=h;⟨o,e,a,k o e b⟩
theorem tv.mono{t:Tx}{env:Env}{P P':Bool->Prop}(h:tv t env P)(k:∀d,P d->P' d):tv t env P':=let ⟨d,a,b⟩:=h;⟨d,a,k d b⟩
theorem zb.ev{e:Ex}{env:Env}{P:D->Prop}(h:zb e env λi=>P (.int i)):ev e env P:=let ⟨i,a,b⟩:=h;⟨_,a,b⟩
theorem Vb.ev{e:Ex}{env:Env}{P:D->Prop}(h:Vb e env λr=>P (ma r)):ev e env P:=let ⟨i,a,b⟩:=h;⟨_,a,b⟩
theorem ag.ev{e:Ex}{env:Env}{P:D->Prop}(h:ag e env λr=>P (la r)):ev e env P:=let ⟨i,a,b⟩:=h;⟨_,a,b⟩
theorem ev.eq{e:Ex}{env:Env}{d:D}(h:ev e env (·=d)):e env=some d:=let ⟨x,a,b⟩:=h;b▸a
theorem zb.eq{e:Ex}{env:Env}{i:Int}(h:zb e env (·=i)):e env=some (.int i):=let ⟨x,a,b⟩:=h;b▸a
theorem tv.eq{e:Tx}{env:Env}{d:Bool}(h:tv e env (·=d)):e env=some d:=let ⟨x,a,b⟩:=h;b▸a
theorem Ya{e:Ex}{env:Env}{d:D}{P:D->Prop}(h:e env=some d)(k:P d):ev e env P:=⟨d,h,k⟩
theorem Ha{e:Ex}{env:Env}{d:Int}{P:Int->Prop}(h:e env=some (.int d))(k:P d):zb e env P:=⟨d,h,k⟩
theorem Xc{e:Ex}{env:Env}{d:K0}{P:K0->Prop}(h:e env=some (ma d))(k:P d):Vb e env P:=⟨d,h,k⟩
theorem am{e:Ex}{env:Env}{d:J0}{P:J0->Prop}(h:e env=some (la d))(k:P d):ag e env P:=⟨d,h,k⟩
theorem Ik{e:Tx}{env:Env}{d:Bool}{P:Bool->Prop}(h:e env=some d)(k:P d):tv e env P:=⟨d,h,k⟩
theorem cm{a b:Ex}{env:Env}{P:Int->Prop}(h:zb a env λi=>zb b env λj=>P (i+j)):zb (ib a b) env P:=by obtain⟨i,h1,j,h2,p⟩:=h;exact⟨_,by simp[ib,De,h1,h2,jn],p⟩
theorem zy{a b:Ex}{env:Env}{P:Int->Prop}(h:zb a env λi=>zb b env λj=>P (i-j)):zb (Ma Lg a b) env P:=by obtain⟨i,h1,j,h2,p⟩:=h;exact⟨_,by simp[Ma,h1,h2,Lg],p⟩
theorem bD{a b:Ex}{env:Env}{P:Int->Prop}(h:zb a env λi=>zb b env λj=>((-18446744073709551616<i/\i<18446744073709551616)\/(-18446744073709551616<j/\j<18446744073709551616))/\P (i*j)):zb (Ma Td a b) env P:=by obtain⟨i,h1,j,h2,q,p⟩:=h;exact⟨_,by simp only[Ma,h1,h2,Td,Q1 q],p⟩
theorem pf{a b:Ex}{env:Env}{P:Int->Prop}(h:zb a env λi=>zb b env λj=>0<j/\P (i%j)):zb (Ma Gb a b) env P:=by obtain⟨i,h1,j,h2,q,p⟩:=h;exact⟨_,by simp only[Ma,h1,h2,Gb,Q1 q],p⟩
theorem qr{a b:Ex}{env:Env}{P:Int->Prop}(h:zb a env λi=>zb b env λj=>(0<j/\j<1073741824)/\P (i/j)):zb (Ma je a b) env P:=by obtain⟨i,h1,j,h2,q,p⟩:=h;exact⟨_,by simp only[Ma,h1,h2,je,Q1 q],p⟩
theorem Ay{a b:Ex}{env:Env}{P:Int->Prop}(h:zb a env λi=>zb b env λj=>(0<=j/\j<=1000/\-1000<=i/\i<=1000)/\P (i^j.toNat)):zb (Ma gn a b) env P:=by obtain⟨i,h1,j,h2,q,p⟩:=h;exact⟨_,by simp only[Ma,h1,h2,gn,Q1 q],p⟩
theorem By{a:Ex}{env:Env}{P:Int->Prop}(h:ag a env λT=>P T.length):zb (za Ta a) env P:=by obtain⟨T,h1,p⟩:=h;exact⟨_,by simp[za,h1,jp],p⟩
theorem gm{a:Ex}{env:Env}{P:Int->Prop}(h:Vb a env λT=>P T.length):zb (za Ta a) env P:=by obtain⟨T,h1,p⟩:=h;exact⟨_,by simp[za,h1,oy],p⟩
theorem Vh{e0 e1 e2:Ex}{env:Env}{P:Int->Prop}{T:J0}{n:Nat}(hT:Tab T n)(h0:e0 env=some (la T))(h:zb e1 env λa=>zb e2 env λb=>(0<=a/\a<n)/\(0<=b/\b<n)/\P (tg T a b)):zb (Ka (Ka e0 e1) e2) env P:=by obtain⟨a,h1,b,h2,⟨a0,a1⟩,⟨b0,b1⟩,p⟩:=h;exact⟨_,Fj hT h0 h1 h2 a0 a1 b0 b1,p⟩
theorem Bn{e0 e1:Ex}{env:Env}{P:Int->Prop}(h:Vb e0 env λr=>zb e1 env λb=>(0<=b/\b<r.length)/\P (r.getD b.toNat 0)):zb (Ka e0 e1) env P:=by obtain⟨r,h0,b,h1,⟨b0,b1⟩,p⟩:=h;exact⟨_,by simp only[Ka,De,h0,h1,Ju b0 b1],p⟩
theorem cD{e0 e1:Ex}{env:Env}{P:K0->Prop}(h:ag e0 env λr=>zb e1 env λb=>(0<=b/\b<r.length)/\P (r.getD b.toNat [])):Vb (Ka e0 e1) env P:=by obtain⟨r,h0,b,h1,⟨b0,b1⟩,p⟩:=h;exact⟨_,by simp only[Ka,De,h0,h1,UC b0 b1],p⟩
theorem Nu{φ:V0}{a:Ex}{env:Env}{P:D->Prop}(h:ev a env λx=>∃d,φ [x]=some d/\P d):ev (Fa φ [a]) env P:=by obtain⟨x,h1,d,h2,p⟩:=h;exact⟨d,(Nd h1).trans h2,p⟩
theorem Cy{φ:V0}{a b:Ex}{env:Env}{P:D->Prop}(h:ev a env λx=>ev b env λy=>∃d,φ [x,y]=some d/\P d):ev (Fa φ [a,b]) env P:=by obtain⟨x,h1,y,h2,d,h3,p⟩:=h;exact⟨d,(uc h1 h2).trans h3,p⟩
theorem dD{a:Ex}{env:Env}{P:D->Prop}(h:ev a env λx=>P (.lst [x])):ev (Xa [a]) env P:=by obtain⟨x,h1,p⟩:=h;exact⟨_,by simp[Xa,evs,h1],p⟩
theorem im{a:Ex}{env:Env}{P:K0->Prop}(h:zb a env λx=>P [x]):Vb (Xa [a]) env P:=by obtain⟨x,h1,p⟩:=h;exact⟨_,by simp[Xa,evs,h1,ma],p⟩
theorem Dy{a b:Ex}{env:Env}{P:K0->Prop}(h:zb a env λx=>zb b env λy=>P [x,y]):Vb (Xa [a,b]) env P:=by obtain⟨x,h1,y,h2,p⟩:=h;exact⟨_,by simp[Xa,evs,h1,h2,ma],p⟩
theorem Ou{t:Tx}{env:Env}{P:D->Prop}(h:tv t env λk=>P (.bl k)):ev (eB t) env P:=by obtain⟨k,h1,p⟩:=h;exact⟨_,by simp only[eB,h1],p⟩
theorem zM{a:Ex}{env:Env}{P:K0->Prop}(h:Vb a env λr=>P r):Vb (za Je a) env P:=by obtain⟨r,h1,p⟩:=h;exact⟨_,by simp only[za,h1];rfl,p⟩
theorem Ey{a b:Ex}{env:Env}{P:Bool->Prop}(h:zb a env λi=>zb b env λj=>P (decide (i<j))):tv (Ob ug a b) env P:=by obtain⟨i,h1,j,h2,p⟩:=h;exact⟨_,by simp[Ob,h1,h2,ug],p⟩
theorem vp{a b:Ex}{env:Env}{P:Bool->Prop}(h:zb a env λi=>zb b env λj=>P (decide (j<i))):tv (Ob Ld a b) env P:=by obtain⟨i,h1,j,h2,p⟩:=h;exact⟨_,by simp[Ob,h1,h2,Ld],p⟩
theorem AM{a b:Ex}{env:Env}{P:Bool->Prop}(h:zb a env λi=>zb b env λj=>P (decide (j<=i))):tv (Ob gr a b) env P:=by obtain⟨i,h1,j,h2,p⟩:=h;exact⟨_,by simp[Ob,h1,h2,gr],p⟩
theorem Bf{a b:Ex}{env:Env}{P:Bool->Prop}(h:zb a env λi=>zb b env λj=>P (decide (i=j))):tv (Ra a b) env P:=by obtain⟨i,h1,j,h2,p⟩:=h;exact⟨_,(lp h1 h2).trans (by congr 1),p⟩
theorem xp{a b:Ex}{env:Env}{P:Bool->Prop}(h:zb a env λi=>zb b env λj=>P (decide (i≠j))):tv (Cd a b) env P:=by obtain⟨i,h1,j,h2,p⟩:=h;exact⟨_,(uy h1 h2).trans (by congr 1;by_cases e:i=j<;>simp[e]),p⟩
theorem eD:∀(r q:K0),lf (r.map .int) (q.map .int)=decide (r=q)
 |[],[]=>by simp[lf]
 |[],_::_=>by simp[lf]
 |_::_,[]=>by simp[lf]
 |x::r,y::q=>by simp only[V1,lf,Pb,eD r q];by_cases h1:x=y<;>by_cases h2:r=q<;>simp[h1,h2]
theorem Pu(r q:K0):Pb (ma r) (ma q)=decide (r=q):=by simp only[ma,Pb,eD]
theorem fD{a b:Ex}{env:Env}{P:Bool->Prop}(h:Vb a env λi=>Vb b env λj=>P (decide (i=j))):tv (Ra a b) env P:=by obtain⟨i,h1,j,h2,p⟩:=h;exact⟨_,by simp[Ra,h1,h2,mr,Pu],p⟩
theorem Fy{a b:Ex}{env:Env}{P:Bool->Prop}(h:Vb a env λi=>Vb b env λj=>P (decide (i≠j))):tv (Cd a b) env P:=by obtain⟨i,h1,j,h2,p⟩:=h;exact⟨_,by simp[Cd,h1,h2,mr,Pu],p⟩
theorem gD(x:Int):∀r:K0,inD (.int x) (r.map .int)=decide (x∈r)
 |[]=>by simp[inD]
 |y::r=>by
  have ih:=gD x r;simp only[inD]at ih |-;simp only[V1,o5,ih,Pb];by_cases h1:x=y
  .simp[h1]
  .have:¬y=x:=λe=>h1 e.symm;simp[h1,this]
theorem iD(x:K0):∀r:J0,inD (ma x) (r.map ma)=decide (x∈r)
 |[]=>by simp[inD]
 |y::r=>by
  have ih:=iD x r;simp only[inD]at ih |-;simp only[V1,o5,ih,Pu];by_cases h1:x=y
  .simp[h1]
  .have:¬y=x:=λe=>h1 e.symm;simp[h1,this]
theorem jD{a b:Ex}{env:Env}{P:Bool->Prop}(h:zb a env λi=>Vb b env λr=>P (decide (i∉r))):tv (yi a b) env P:=by obtain⟨i,h1,j,h2,p⟩:=h;exact⟨_,by simp[yi,Fu,h1,h2,ma,Ku,gD,D.dep],p⟩
theorem BM{a b:Ex}{env:Env}{P:Bool->Prop}(h:Vb a env λi=>ag b env λr=>P (decide (i∉r))):tv (yi a b) env P:=by obtain⟨i,h1,j,h2,p⟩:=h;exact⟨_,by have:=VC j;have:=mr i;simp only[yi,Fu,h1,h2,la,iD];rw[Q1 (by omega)];simp,p⟩
theorem CM{a:Ex}{env:Env}{P:Bool->Prop}(h:ev a env λd=>P (!d.Ul)):tv (uh a) env P:=by obtain⟨i,h1,p⟩:=h;exact⟨_,by simp only[uh,h1],p⟩
theorem yp{a:Tx}{env:Env}{P:Bool->Prop}(h:tv a env λd=>P (!d)):tv (Ye a) env P:=by obtain⟨i,h1,p⟩:=h;exact⟨_,by simp only[Ye,h1],p⟩
theorem Gy{a b:Tx}{env:Env}{P:Bool->Prop}(h:tv a env λd=>(d=true->tv b env P)/\(d=false->P false)):tv (Kc a b) env P:=by
 obtain⟨i,h1,p,q⟩:=h;cases i with
 |true=>obtain⟨j,h2,p⟩:=p rfl;exact⟨j,by simp only[Kc,h1,h2],p⟩
 |false=>exact⟨false,by simp only[Kc,h1],q rfl⟩
theorem DM{a b:Tx}{env:Env}{P:Bool->Prop}(h:tv a env λd=>(d=true->P true)/\(d=false->tv b env P)):tv (Nf a b) env P:=by
 obtain⟨i,h1,p,q⟩:=h;cases i with
 |false=>obtain⟨j,h2,p⟩:=q rfl;exact⟨j,by simp only[Nf,h1,h2],p⟩
 |true=>exact⟨true,by simp only[Nf,h1],p rfl⟩
theorem Jk{a:Ex}{env:Env}{P:Bool->Prop}(h:ev a env λd=>∃k,d=.bl k/\P k):tv (tB a) env P:=by obtain⟨_,h1,k,rfl,p⟩:=h;exact⟨_,by simp only[tB,h1],p⟩
theorem Qf{env:Env}{Q:Out->Env->Prop}(h:Q .nx env):wp Qa env Q:=⟨_,_,rfl,h⟩
theorem Bc{i:Nat}{e:Ex}{env:Env}{Q:Out->Env->Prop}(h:ev e env λd=>Q .nx (env.set i (.sh d))):wp (Sa i e) env Q:=by obtain⟨d,h1,p⟩:=h;exact⟨_,_,by simp only[Sa,h1],p⟩
theorem Cn{i:Nat}{e:Ex}{env:Env}{Q:Out->Env->Prop}(h:ev e env λd=>Q .nx (env.set i (.fr d))):wp (zh i e) env Q:=by obtain⟨d,h1,p⟩:=h;exact⟨_,_,by simp only[zh,h1],p⟩
theorem sr{i:Nat}{e:Ex}{env:Env}{Q:Out->Env->Prop}(h:ev e env λd=>∃ds,d=.lst ds/\Q .nx (env.set i (.ow ds))):wp (mf i e) env Q:=by obtain⟨_,h1,ds,rfl,p⟩:=h;exact⟨_,_,by simp only[mf,h1],p⟩
theorem kD{i:Nat}{e:Ex}{env:Env}{Q:Out->Env->Prop}{ds:W0}(hi:env[i]?=some (.ow ds))(h:ev e env λd=>ds.length<lim/\Q .nx (env.set i (.ow (ds++[d])))):wp (Sh i e) env Q:=by obtain⟨d,h1,q,p⟩:=h;exact⟨_,_,by simp only[Sh,hi,h1,Q1 q],p⟩
theorem lD{i:Nat}{env:Env}{Q:Out->Env->Prop}{ds:W0}(hi:env[i]?=some (.ow ds))(h:Q .nx (env.set i (.sh (.lst ds)))):wp (Yc i) env Q:=⟨_,_,by simp only[Yc,hi],h⟩
theorem EM{i:Nat}{env:Env}{Q:Out->Env->Prop}{d:D}(hi:env[i]?=some (.sh d))(h:Q .nx env):wp (Yc i) env Q:=⟨_,_,by simp only[Yc,hi],h⟩
theorem Rf{e:Ex}{env:Env}{Q:Out->Env->Prop}(h:ev e env λ_=>Q .nx env):wp (md e) env Q:=by obtain⟨d,h1,p⟩:=h;exact⟨_,_,by simp only[md,h1],p⟩
theorem vc{e:Ex}{env:Env}{Q:Out->Env->Prop}(h:ev e env λd=>Q (.rt d) env):wp (Na e) env Q:=by obtain⟨d,h1,p⟩:=h;exact⟨_,_,by simp only[Na,h1],p⟩
noncomputable def Ua(b:St)(Q:Out->Env->Prop):Out->Env->Prop
 |.nx,e=>wp b e Q
 |.bk,e=>Q .bk e
 |.ct,e=>Q .ct e
 |.rt d,e=>Q (.rt d) e
theorem wp_seq{a b:St}{env:Env}{Q:Out->Env->Prop}(h:wp a env (Ua b Q)):wp (ua a b) env Q:=by
 obtain⟨o,e,h1,p⟩:=h;cases o with
 |nx=>obtain⟨o,e',h2,p⟩:=p;exact⟨o,e',by simp only[ua,h1,h2],p⟩
 |bk=>exact⟨_,_,by simp only[ua,h1],p⟩
 |ct=>exact⟨_,_,by simp only[ua,h1],p⟩
 |rt d=>exact⟨_,_,by simp only[ua,h1],p⟩
theorem bg{c:Tx}{a b:St}{env:Env}{Q:Out->Env->Prop}(h:tv c env λk=>(k=true->wp a env Q)/\(k=false->wp b env Q)):wp (Za c a b) env Q:=by
 obtain⟨k,h1,p,q⟩:=h;cases k with
 |true=>obtain⟨o,e,h2,p⟩:=p rfl;exact⟨o,e,by simp only[Za,h1,h2],p⟩
 |false=>obtain⟨o,e,h2,p⟩:=q rfl;exact⟨o,e,by simp only[Za,h1,h2],p⟩
theorem Gj{c:Tx}{a:St}{env:Env}{Q:Out->Env->Prop}(h:tv c env (·=false))(k:Q .nx env):wp (Za c a Qa) env Q:=
 bg (tv.mono h λd hd=>⟨λe=>(by rw[hd]at e;cases e),λ_=>Qf k⟩)
noncomputable def lps(I:Env->Prop)(Q:Out->Env->Prop):Out->Env->Prop
 |.nx,e=>I e
 |.ct,e=>I e
 |.bk,e=>Q .nx e
 |.rt d,e=>Q (.rt d) e
theorem ur{g : Tg}{it : Lx}{b : St}{env : Env}{Q : Out → Env → Prop}{ds : W0}(I : Nat → Env → Prop)(hit : it env = some ds)(h0 : I 0 env)(step : ∀ k d e, ds[k]? = some d → I k e → ∃ e0, g d e = some e0 ∧ wp b e0 (lps (I (k + 1)) Q))(h1 : ∀ e, I ds.length e → Q .nx e): wp (yb g it b) env Q := by
  have go : ∀ (m k : Nat) (env : Env), k + m = ds.length → I k env → ∃ o e, forL g b (ds.drop k) env = some (o, e) ∧ Q o e := by
    intro m
    induction m with
    | zero => intro k env hk hI; have : k = ds.length := by omega
              subst this; rw [c6]; exact ⟨_, env, rfl, h1 _ hI⟩
    | succ m ih =>
      intro k env hk hI
      have Wa : k < ds.length := by omega
      obtain ⟨e0, hg, o, e1, hb, p⟩ := step k ds[k] env (by simp [Wa]) hI
      rw [D4 Wa]
      cases o with
      | nx => obtain ⟨o, e, h2, p⟩ := ih (k + 1) e1 (by omega) p; exact ⟨o, e, by simp only [forL, hg, hb, h2], p⟩
      | ct => obtain ⟨o, e, h2, p⟩ := ih (k + 1) e1 (by omega) p; exact ⟨o, e, by simp only [forL, hg, hb, h2], p⟩
      | bk => exact ⟨_, _, by simp only [forL, hg, hb], p⟩
      | rt d => exact ⟨_, _, by simp only [forL, hg, hb], p⟩
  obtain ⟨o, e, h2, p⟩ := go ds.length 0 env (by omega) h0
  exact ⟨o, e, by simp only [yb, hit]; simpa using h2, p⟩
theorem zp{i n:Nat}{it:Lx}{b:St}{env:Env}{Q:Out->Env->Prop}(I:Nat->Env->Prop)(hit:it env=some (cc 0 n))(h0:I 0 env)(step:∀(k:Nat) e,k<n->I k e->wp b (e.set i (.sh (.int k))) (lps (I (k+1)) Q))(h1:∀e,I n e->Q .nx e):wp (yb (gN i) it b) env Q:=by
 refine ur I hit h0 (λk d e hd hI=>?_) (λe hI=>h1 e (by rwa [Og]at hI));have hk:k<n:=by have:=(P1.mp hd).1;rwa [Og]at this
 rw[Ej hk]at hd;injection hd with hd;subst hd;refine⟨_,rfl,?_⟩;have:=step k e hk hI
 rwa [show(0:Int)+(k:Nat)=k by omega]
theorem Dn{i:Nat}{it:Lx}{r:K0}{b:St}{env:Env}{Q:Out->Env->Prop}(I:Nat->Env->Prop)(hit:it env=some (r.map .int))(h0:I 0 env)(step:∀(k:Nat) e x,r[k]?=some x->I k e->wp b (e.set i (.sh (.int x))) (lps (I (k+1)) Q))(h1:∀e,I r.length e->Q .nx e):wp (yb (gN i) it b) env Q:=by refine ur I hit h0 (λk d e hd hI=>?_) (λe hI=>h1 e (by rwa [Y0]at hI));rw[i3,v6]at hd;obtain⟨x,hx,rfl⟩:=hd;exact⟨_,rfl,step k e x hx hI⟩
theorem FM{i:Nat}{it:Lx}{r:J0}{b:St}{env:Env}{Q:Out->Env->Prop}(I:Nat->Env->Prop)(hit:it env=some (r.map ma))(h0:I 0 env)(step:∀(k:Nat) e x,r[k]?=some x->I k e->wp b (e.set i (.sh (ma x))) (lps (I (k+1)) Q))(h1:∀e,I r.length e->Q .nx e):wp (yb (gN i) it b) env Q:=by refine ur I hit h0 (λk d e hd hI=>?_) (λe hI=>h1 e (by rwa [Y0]at hI));rw[i3,v6]at hd;obtain⟨x,hx,rfl⟩:=hd;exact⟨_,rfl,step k e x hx hI⟩
theorem mD{c:Tx}{b:St}{env:Env}{Q:Out->Env->Prop}{m N:Nat}(I:Nat->Env->Prop)(hN:N<m)(h0:I 0 env)(step:∀k e,I k e->tv c e λt=>(t=true->k<N/\wp b e (lps (I (k+1)) Q))/\(t=false->Q .nx e)):wp (Yf c b m) env Q:=by
 have go:∀(m k:Nat) (env:Env),N<k+m->k<=N->I k env->∃o e,Yf c b m env=some (o,e)/\Q o e:=by
  intro m;induction m with
  |zero=>intro k env h1 h2;omega
  |succ m ih=>
   intro k env h1 h2 hI;obtain⟨t,ht,p,q⟩:=step k env hI;cases t with
   |false=>exact⟨_,_,by simp only[Yf,ht],q rfl⟩
   |true=>
    obtain⟨hk,o,e1,hb,p⟩:=p rfl;cases o with
    |nx=>obtain⟨o,e,h3,p⟩:=ih (k+1) e1 (by omega) (by omega) p;exact⟨o,e,by simp only[Yf,ht,hb,h3],p⟩
    |ct=>obtain⟨o,e,h3,p⟩:=ih (k+1) e1 (by omega) (by omega) p;exact⟨o,e,by simp only[Yf,ht,hb,h3],p⟩
    |bk=>exact⟨_,_,by simp only[Yf,ht,hb],p⟩
    |rt d=>exact⟨_,_,by simp only[Yf,ht,hb],p⟩
 exact go m 0 env (by omega) (by omega) h0
noncomputable def ends(d:D):Out->Env->Prop
 |.rt x,_=>x=d
 |.nx,_=>d=.non
 |_,_=>False
theorem Pd{p n:Nat}{g:St}{ds:W0}{d:D}(hp:ds.length=p)(h:wp g (enter n ds) (ends d)):run p n g ds=some d:=by
 obtain⟨o,e,h1,q⟩:=h;cases o with
 |rt x=>have:x=d:=q;subst this;exact Zd hp h1
 |nx=>have:d=.non:=q;subst this;exact Iu hp h1
 |bk=>cases q
 |ct=>cases q
theorem Hy{i:Nat}{it:Lx}{c:Tx}{e:Ex}{env:Env}{P:D->Prop}{ds:W0}(p:D->Bool)(F:D->D)(hit:it env=some ds)(hl:ds.length<=lim)(hc:∀d∈ds,tv c (env.set i (.sh d)) (·=p d))(he:∀d∈ds,p d=true->ev e (env.set i (.sh d)) (·=F d))(h:P (.lst ((ds.filter p).map F))):ev (cb i it c e) env P:=
 ⟨_,by simp only[cb,hit,Q1 hl,RC p F ds (λd hd=>(hc d hd).eq) λd hd hp=>(he d hd hp).eq],h⟩
theorem En{i:Nat}{it:Lx}{c:Tx}{e:Ex}{env:Env}{P:K0->Prop}{r:K0}(p:Int->Bool)(F:Int->Int)(hit:it env=some (r.map .int))(hl:r.length<=lim)(hc:∀x∈r,tv c (env.set i (.sh (.int x))) (·=p x))(he:∀x∈r,p x=true->zb e (env.set i (.sh (.int x))) (·=F x))(h:P ((r.filter p).map F)):Vb (cb i it c e) env P:=by
 have key:=Hy (P:=(·=ma ((r.filter p).map F))) (c:=c) (e:=e) (i:=i) (λd=>match d with|.int x=>p x|_=>false) (λd=>match d with|.int x=>.int (F x)|_=>.non) hit (by rw[Y0];exact hl)
  (λd hd=>by obtain⟨x,hx,rfl⟩:=U1.mp hd;exact hc x hx)
  (λd hd hp=>by obtain⟨x,hx,rfl⟩:=U1.mp hd;exact zb.ev (let ⟨y,h1,h2⟩:=he x hx hp;⟨y,h1,p5 D.int h2⟩))
  (by simp[ma,L8,L5])
 exact⟨_,key.eq,h⟩
theorem zr{i:Nat}{it:Lx}{e:Ex}{env:Env}{P:K0->Prop}{r:K0}(F:Int->Int)(hit:it env=some (r.map .int))(hl:r.length<=lim)(he:∀x∈r,zb e (env.set i (.sh (.int x))) (·=F x))(h:P (r.map F)):Vb (cb i it xb e) env P:=
 En (λ_=>true) F hit hl (λ_ _=>⟨_,rfl,rfl⟩) (λx hx _=>he x hx) (by rw[d8.mpr (λ_ _=>rfl)];exact h)
noncomputable def upto(n:Nat):K0:=(List.range n).map Int.ofNat
theorem nD(n:Nat):(upto n).map D.int=cc 0 n:=by simp[upto,cc,L5]
theorem Ud{n:Nat}{x:Int}:x∈upto n↔0<=x/\x<n:=by simp only[upto,U1,j4];exact⟨λ⟨k,hk,e⟩=>by subst e;simp only[P6];omega,λ⟨h0,h1⟩=>⟨x.toNat,by omega,by simp only[P6];omega⟩⟩
theorem Fd(n:Nat):(upto n).length=n:=by simp[upto]
theorem Qu(n:Nat):(upto n).Nodup:=by unfold upto;exact ZaA _ (λa b (h:a≠b) (e:Int.ofNat a=Int.ofNat b)=>h (by simp only[P6]at e;omega)) List.nodup_range
theorem Wh{e:Ex}{env:Env}{n:Nat}(h:e env=some (.int n))(hn:n<=1000):vb e env=some ((upto n).map .int):=by rw[nD];exact Pg h hn
theorem HM{a:Ex}{env:Env}{P:K0->Prop}(h:zb a env λj=>∃n:Nat,j=n/\n<=1000/\P (upto n)):Vb (za Vl a) env P:=by obtain⟨_,h1,n,rfl,hn,p⟩:=h;refine⟨_,?_,p⟩;simp only[za,h1,Vl];rw[Q1 ⟨by rw[yc];omega,by rw[yc];omega⟩,<-nD];simp[ma]
theorem oD{a:Ex}{env:Env}{P:K0->Prop}(h:Vb a env λr=>r.length<=3000/\(seen r).length<64/\P (Wc (seen r))):Vb (za Gk a) env P:=by obtain⟨r,h1,h2,h3,p⟩:=h;refine⟨_,?_,p⟩;simp only[za,h1,ma,Gk,ints_map];rw[Q1 ⟨h2,h3⟩]
theorem Kk{a b:Ex}{env:Env}{P:K0->Prop}(h:Vb a env λr=>Vb b env λq=>r.length+q.length<=1000/\P (r++q)):Vb (ib a b) env P:=by obtain⟨r,h1,q,h2,h3,p⟩:=h;refine⟨_,?_,p⟩;simp only[ib,De,h1,h2,ma,jn,Y0];rw[Q1 (by rw[yc];omega),D3]
theorem IM{i:Nat}{e:Ex}{env:Env}{Q:Out->Env->Prop}(h:Vb e env λr=>Q .nx (env.set i (.ow (r.map .int)))):wp (mf i e) env Q:=by obtain⟨r,h1,p⟩:=h;exact⟨_,_,by simp only[mf,h1,ma],p⟩
theorem JM{i:Nat}{e:Ex}{env:Env}{Q:Out->Env->Prop}{r:K0}(hi:env[i]?=some (.ow (r.map .int)))(h:Vb e env λq=>r.length+q.length<=1000/\Q .nx (env.set i (.ow ((r++q).map .int)))):wp (kr i e) env Q:=by obtain⟨q,h1,h2,p⟩:=h;refine⟨_,_,?_,p⟩;simp only[kr,hi,h1,ma];rw[Q1 (by rw[Y0,Y0,yc];omega),D3]
theorem xg{r:K0}{e:Ex}{env:Env}(h:e env=some (ma r)):Db e env=some (r.map .int):=by simp[Db,h,ma]
theorem Ar{i:Nat}{it:Lx}{e:Ex}{env:Env}{P:Bool->Prop}{r:K0}(p:Int->Bool)(hit:it env=some (r.map .int))(hl:r.length<=lim)(he:∀x∈r,ev e (env.set i (.sh (.int x))) (·=.bl (p x)))(h:P (r.all p)):ev (za Pf (cb i it xb e)) env λd=>∃k,d=.bl k/\P k:=by
 refine⟨_,?_,_,rfl,h⟩;have hc:=yn (i:=i) (e:=e) (env:=env) (λd=>match d with|.int x=>.bl (p x)|_=>.non) (r.map .int) (λd hd=>by obtain⟨x,hx,rfl⟩:=U1.mp hd;exact(he x hx).eq);have e2:(r.map D.int).map (λd=>match d with|.int x=>D.bl (p x)|_=>.non)=r.map λx=>.bl (p x):=by simp
 have e3:∀q:K0,allB (q.map λx=>D.bl (p x))=some (q.all p):=by
  intro q;induction q with
  |nil=>rfl
  |cons x q ih=>simp only[V1,allB,ih,O6]
 simp only[za,cb,hit,Y0,Q1 hl,hc,e2,Pf,e3]
theorem Ru{i:Nat}{e:Ex}{env:Env}{Q:Out->Env->Prop}(h:ev e env λd=>∃ds,d=.lst ds/\Q .nx (env.set i (.nw ds))):wp (sNew i e) env Q:=by obtain⟨_,h1,ds,rfl,p⟩:=h;exact⟨_,_,by simp only[sNew,h1],p⟩
theorem Su{i:Nat}{e:Ex}{env:Env}{Q:Out->Env->Prop}{ds:W0}(hi:env[i]?=some (.nw ds))(h:ev e env λd=>ds.length<lim/\Q .nx (env.set i (.nw (ds++[d])))):wp (Ai i e) env Q:=by obtain⟨d,h1,q,p⟩:=h;exact⟨_,_,by simp only[Ai,hi,h1,Q1 q],p⟩
theorem Iy{i:Nat}{env:Env}{Q:Out->Env->Prop}{ds:W0}(hi:env[i]?=some (.nw ds))(h:Q .nx (env.set i (.fr (.lst ds)))):wp (Yc i) env Q:=⟨_,_,by simp only[Yc,hi],h⟩
theorem Br{e:Ex}{env:Env}{P:K0->Prop}(h:Vb e env P):Vb (yh e) env P:=by obtain⟨r,h1,p⟩:=h;refine⟨r,?_,p⟩;simp only[yh,h1,ma];rw[Q1 (by simp[R7,xh,L5])]
theorem Cr{a:Ex}{env:Env}{P:K0->Prop}(h:Vb a env λr=>r.length<64/\P (Wc r)):Vb (za Ng a) env P:=by obtain⟨r,h1,h2,p⟩:=h;refine⟨_,?_,p⟩;simp only[za,h1,ma,Ng,ints_map];rw[Q1 h2]
theorem pD:∀T:J0,mn (T.map ma)=some T
 |[]=>rfl
 |r::T=>by simp only[V1,mn,pD T,ma,Mg,ints_map]
theorem LM{a:Ex}{env:Env}{P:J0->Prop}(h:ag a env λr=>r.length<64/\P (vh (λr=>r) r)):ag (za Ng a) env P:=by
 obtain⟨T,h1,h2,p⟩:=h;refine⟨_,?_,p⟩;cases T with
 |nil=>simp only[za,h1,la];rfl
 |cons r T=>
  have e1:Xd ((r::T).map ma)=none:=by simp[Xd,ma]
  simp only[za,h1,la,Ng,e1,pD];rw[Q1 h2];rfl
theorem MM{i:Nat}{it:Lx}{e:Ex}{env:Env}{P:D->Prop}{r:K0}(p:Int->Bool)(hit:it env=some (r.map .int))(hl:r.length<=lim)(he:∀x∈r,ev e (env.set i (.sh (.int x))) (·=.bl (p x)))(h:P (.bl (r.any p))):ev (za ir (cb i it xb e)) env P:=by
 refine⟨_,?_,h⟩;have hc:=yn (i:=i) (e:=e) (env:=env) (λd=>match d with|.int x=>.bl (p x)|_=>.non) (r.map .int) (λd hd=>by obtain⟨x,hx,rfl⟩:=U1.mp hd;exact(he x hx).eq);have e2:(r.map D.int).map (λd=>match d with|.int x=>D.bl (p x)|_=>.non)=r.map λx=>.bl (p x):=by simp
 have e3:∀q:K0,anyB (q.map λx=>D.bl (p x))=some (q.any p):=by
  intro q;induction q with
  |nil=>rfl
  |cons x q ih=>simp only[V1,anyB,ih,o5]
 simp only[za,cb,hit,Y0,Q1 hl,hc,e2,ir,e3]
theorem NM{i:Nat}{it:Lx}{c:Tx}{e:Ex}{env:Env}{P:K0->Prop}{T:J0}(p:K0->Bool)(F:K0->Int)(hit:it env=some (T.map ma))(hl:T.length<=lim)(hc:∀x∈T,tv c (env.set i (.sh (ma x))) (·=p x))(he:∀x∈T,p x=true->zb e (env.set i (.sh (ma x))) (·=F x))(h:P ((T.filter p).map F)):Vb (cb i it c e) env P:=by
 have key:=Hy (P:=(·=ma ((T.filter p).map F))) (c:=c) (e:=e) (i:=i) (λd=>match Mg d with|some x=>p x|none=>false) (λd=>match Mg d with|some x=>.int (F x)|none=>.non) hit (by rw[Y0];exact hl)
  (λd hd=>by obtain⟨x,hx,rfl⟩:=U1.mp hd;simp only[ma,Mg,ints_map];exact hc x hx)
  (λd hd hp=>by obtain⟨x,hx,rfl⟩:=U1.mp hd;simp only[ma,Mg,ints_map]at hp |-;exact zb.ev (let ⟨y,h1,h2⟩:=he x hx hp;⟨y,h1,p5 D.int h2⟩))
  (by simp[ma,L8,L5,Mg,ints_map])
 exact⟨_,key.eq,h⟩
theorem Tu{i:Nat}{it:Lx}{c:Tx}{e:Ex}{env:Env}{P:J0->Prop}{T:J0}(p:K0->Bool)(F:K0->K0)(hit:it env=some (T.map ma))(hl:T.length<=lim)(hc:∀x∈T,tv c (env.set i (.sh (ma x))) (·=p x))(he:∀x∈T,p x=true->Vb e (env.set i (.sh (ma x))) (·=F x))(h:P ((T.filter p).map F)):ag (cb i it c e) env P:=by
 have key:=Hy (P:=(·=la ((T.filter p).map F))) (c:=c) (e:=e) (i:=i) (λd=>match Mg d with|some x=>p x|none=>false) (λd=>match Mg d with|some x=>ma (F x)|none=>.non) hit (by rw[Y0];exact hl)
  (λd hd=>by obtain⟨x,hx,rfl⟩:=U1.mp hd;simp only[ma,Mg,ints_map];exact hc x hx)
  (λd hd hp=>by obtain⟨x,hx,rfl⟩:=U1.mp hd;simp only[ma,Mg,ints_map]at hp |-;exact Vb.ev (let ⟨y,h1,h2⟩:=he x hx hp;⟨y,h1,p5 ma h2⟩))
  (by simp[la,ma,L8,L5,Mg,ints_map])
 exact⟨_,key.eq,h⟩
theorem Hj{T:J0}{e:Ex}{env:Env}(h:e env=some (la T)):Db e env=some (T.map ma):=by simp[Db,h,la]
theorem OM{i:Nat}{e:Ex}{env:Env}{Q:Out->Env->Prop}{T:J0}(hi:env[i]?=some (.ow (T.map ma)))(h:Vb e env λx=>T.length<1000/\Q .nx (env.set i (.ow ((T++[x]).map ma)))):wp (Sh i e) env Q:=by
 obtain⟨x,h1,h2,p⟩:=h;refine kD hi ⟨_,h1,?_,?_⟩
 .rw[Y0,yc];omega
 .rw[D3]at p;exact p
noncomputable def be(kvs:List (Int×Int)):List (Key×V):=kvs.map λp=>(Sum.inl p.1,V.int p.2)
mutual
noncomputable def Rep(K:Frag)(H:Hp):D->V->Prop
 |.non,v=>v=.non
 |.bl b,v=>v=.bl b
 |.int i,v=>v=.int i
 |.str x,v=>v=.str x
 |.lst ds,v=>∃a vs,v=.ref a/\Cc K H a vs/\Ba K H ds vs
 |.tup ds,v=>∃a vs,v=.ref a/\Qe K H a vs/\Ba K H ds vs
 |.dct kvs,v=>∃a o,v=.ref a/\H a=some (.Tc o (.dK (be kvs)))
noncomputable def Ba(K:Frag)(H:Hp):W0->U0->Prop
 |[],vs=>vs=[]
 |d::ds,vs=>∃v r,vs=v::r/\Rep K H d v/\Ba K H ds r
end
theorem Ij{K:Frag}{H H':Hp}{a:Addr}{xs:U0}(e:Same H H')(h:Qe K H a xs):Qe K H' a xs:=by
 rcases h with(h|⟨o,h⟩)|h
 .exact .inl (.inl (e _ _ h))
 .exact .inl (.inr ⟨o,e _ _ h⟩)
 .exact .inr h
mutual
theorem Rep.mono{K:Frag}{H H':Hp}(e:Same H H'):∀(d:D) (v:V),Rep K H d v->Rep K H' d v
 |.non,_,h=>by simp only[Rep]at h |-;exact h
 |.bl _,_,h=>by simp only[Rep]at h |-;exact h
 |.int _,_,h=>by simp only[Rep]at h |-;exact h
 |.str _,_,h=>by simp only[Rep]at h |-;exact h
 |.lst ds,v,h=>by simp only[Rep]at h |-;obtain⟨a,vs,h1,h2,h3⟩:=h;exact⟨a,vs,h1,e.seq h2,Ba.mono e ds vs h3⟩
 |.tup ds,v,h=>by simp only[Rep]at h |-;obtain⟨a,vs,h1,h2,h3⟩:=h;exact⟨a,vs,h1,Ij e h2,Ba.mono e ds vs h3⟩
 |.dct kvs,v,h=>by simp only[Rep]at h |-;obtain⟨a,o,h1,h2⟩:=h;exact⟨a,o,h1,e _ _ h2⟩
theorem Ba.mono{K:Frag}{H H':Hp}(e:Same H H'):∀(ds:W0) (vs:U0),Ba K H ds vs->Ba K H' ds vs
 |[],_,h=>by simp only[Ba]at h |-;exact h
 |d::ds,vs,h=>by simp only[Ba]at h |-;obtain⟨v,r,h1,h2,h3⟩:=h;exact⟨v,r,h1,Rep.mono e d v h2,Ba.mono e ds r h3⟩
end
section
variable{K:Frag}{H:Hp}
theorem Ba.nil:Ba K H [] []:=by simp[Ba]
theorem Ba.cons{d:D}{v:V}{ds:W0}{vs:U0}(h:Rep K H d v)(t:Ba K H ds vs):Ba K H (d::ds) (v::vs):=by simp only[Ba];exact⟨v,vs,rfl,h,t⟩
theorem Ba.length:∀{ds:W0} {vs:U0},Ba K H ds vs->ds.length=vs.length
 |[],vs,h=>by simp only[Ba]at h;subst h;rfl
 |d::ds,vs,h=>by simp only[Ba]at h;obtain⟨v,r,rfl,_,t⟩:=h;simp[t.length]
theorem Ba.get:∀{ds:W0} {vs:U0} {i:Nat} {d:D},Ba K H ds vs->ds[i]?=some d->∃v,vs[i]?=some v/\Rep K H d v
 |[],vs,i,d,h,e=>by simp at e
 |d'::ds,vs,0,d,h,e=>by simp only[Ba]at h;obtain⟨v,r,rfl,h1,t⟩:=h;simp at e;subst e;exact⟨v,rfl,h1⟩
 |d'::ds,vs,i+1,d,h,e=>by simp only[Ba]at h;obtain⟨v,r,rfl,h1,t⟩:=h;obtain⟨w,q1,q2⟩:=Ba.get (i:=i) (d:=d) t (by simpa using e);exact⟨w,by simpa using q1,q2⟩
theorem Ba.Ap:∀{ds:W0} {vs:U0} {i:Nat} {v:V},Ba K H ds vs->vs[i]?=some v->∃d,ds[i]?=some d/\Rep K H d v
 |[],vs,i,v,h,e=>by simp only[Ba]at h;subst h;simp at e
 |d'::ds,vs,0,v,h,e=>by simp only[Ba]at h;obtain⟨w,r,rfl,h1,t⟩:=h;simp at e;subst e;exact⟨d',rfl,h1⟩
 |d'::ds,vs,i+1,v,h,e=>by simp only[Ba]at h;obtain⟨w,r,rfl,h1,t⟩:=h;obtain⟨d,q1,q2⟩:=Ba.Ap (i:=i) (v:=v) t (by simpa using e);exact⟨d,by simpa using q1,q2⟩
theorem Ba.append:∀{ds es:W0} {vs ws:U0},Ba K H ds vs->Ba K H es ws->Ba K H (ds++es) (vs++ws)
 |[],es,vs,ws,h,h2=>by simp only[Ba]at h;subst h;exact h2
 |d::ds,es,vs,ws,h,h2=>by simp only[Ba]at h;obtain⟨v,r,rfl,h1,t⟩:=h;exact Ba.cons h1 (t.append h2)
theorem Ba.take:∀{ds:W0} {vs:U0} (n:Nat),Ba K H ds vs->Ba K H (ds.take n) (vs.take n)
 |[],vs,n,h=>by simp only[Ba]at h;subst h;simp[Ba]
 |d::ds,vs,0,h=>by simp[Ba]
 |d::ds,vs,n+1,h=>by simp only[Ba]at h;obtain⟨v,r,rfl,h1,t⟩:=h;exact Ba.cons h1 (t.take n)
theorem Ba.drop:∀{ds:W0} {vs:U0} (n:Nat),Ba K H ds vs->Ba K H (ds.drop n) (vs.drop n)
 |[],vs,n,h=>by simp only[Ba]at h;subst h;simp[Ba]
 |d::ds,vs,0,h=>h
 |d::ds,vs,n+1,h=>by simp only[Ba]at h;obtain⟨v,r,rfl,h1,t⟩:=h;exact t.drop n
theorem Ba.set{d:D}{v:V}(h:Rep K H d v):∀{ds:W0} {vs:U0} (i:Nat),Ba K H ds vs->Ba K H (ds.set i d) (vs.set i v)
 |[],vs,i,t=>by simp only[Ba]at t;subst t;simp[Ba]
 |e::ds,vs,0,t=>by simp only[Ba]at t;obtain⟨w,r,rfl,h1,t⟩:=t;exact Ba.cons h t
 |e::ds,vs,i+1,t=>by simp only[Ba]at t;obtain⟨w,r,rfl,h1,t⟩:=t;exact Ba.cons h1 (t.set h i)
theorem Ba.insertIdx{d:D}{v:V}(h:Rep K H d v):∀{ds:W0} {vs:U0} (i:Nat),Ba K H ds vs->Ba K H (ds.insertIdx i d) (vs.insertIdx i v)
 |ds,vs,0,t=>by simp only[Q6];exact Ba.cons h t
 |[],vs,i+1,t=>by simp only[Ba]at t;subst t;simp[Ba]
 |e::ds,vs,i+1,t=>by simp only[Ba]at t;obtain⟨w,r,rfl,h1,t⟩:=t;simp only[Y4];exact Ba.cons h1 (t.insertIdx h i)
theorem Ba.ints(xs:K0):Ba K H (xs.map .int) (xs.map .int):=by
 induction xs with
 |nil=>exact Ba.nil
 |cons x xs ih=>exact Ba.cons (by simp[Rep]) ih
end
noncomputable def cut(F G:Hp):Hp:=λa=>match G a with
 |none=>F a
 |some _=>none
theorem Lk{F G:Hp}:Same (cut F G) F:=λb o h=>by
 unfold cut at h;split at h
 .exact h
 .cases h
theorem Mk{F G:Hp}{a:Addr}(h:G a=none):cut F G a=F a:=by unfold cut;rw[h]
structure Ext(F H F' H':Hp):Prop where
 hh:Same H H'
 ff:Same F F'
 dm:∀a o,F' a=some o->F a=some o\/H a=none
 fh:Same F' H'
theorem Ext.refl{F H:Hp}(h:Same F H):Ext F H F H:=⟨.refl _,.refl _,λ_ _ e=>.inl e,h⟩
theorem Ext.trans{F H F1 H1 F2 H2:Hp}(a:Ext F H F1 H1)(b:Ext F1 H1 F2 H2):Ext F H F2 H2:=
 ⟨a.hh.trans b.hh,a.ff.trans b.ff,λc o e=>(b.dm c o e).elim (λq=>a.dm c o q) λq=>.inr (a.hh.free q),b.fh⟩
theorem Ext.laid{F H:Hp}(fh:Same F H){p:Addr}{o:HO}(hp:H p=none):Ext F H (upd F p o) (upd H p o):=by
 refine⟨λb u e=>?_,λb u e=>?_,λb u e=>?_,λb u e=>?_⟩
 .rw[rb (Vc e hp)];exact e
 .rw[rb (Vc (fh _ _ e) hp)];exact e
 .by_cases hb:b=p
  .subst hb;exact .inr hp
  .rw[rb hb]at e;exact .inl e
 .by_cases hb:b=p
  .subst hb;rw[Lb]at e |-;exact e
  .rw[rb hb]at e |-;exact fh _ _ e
theorem Ext.own{F H:Hp}(fh:Same F H){p:Addr}{o:HO}(hp:H p=none):Ext F H F (upd H p o):=by
 have s:Same H (upd H p o):=λb u e=>by rw[rb (Vc e hp)];exact e
 exact⟨s,.refl _,λ_ _ e=>.inl e,fh.trans s⟩
theorem Ext.Tc{F H F' H':Hp}(e:Ext F H F' H'){p:Addr}{o:HO}(hp:H p=none)(h':H' p=some o)(f':F' p=none):Ext F H (upd F' p o) H':=by
 refine⟨e.hh,λb u q=>?_,λb u q=>?_,λb u q=>?_⟩
 .rw[rb (Vc (e.ff _ _ q) f')];exact e.ff _ _ q
 .by_cases hb:b=p
  .subst hb;exact .inr hp
  .rw[rb hb]at q;exact e.dm _ _ q
 .by_cases hb:b=p
  .subst hb;rw[Lb]at q;cases q;exact h'
  .rw[rb hb]at q;exact e.fh _ _ q
noncomputable def Yd(K:Frag)(F H:Hp):List W0->R0->Prop
 |[],as=>as=[]
 |r::rs,as=>∃a t vs,as=a::t/\H a=some (.lst vs)/\Ba K F r vs/\Yd K F H rs t
theorem Yd.mono{K:Frag}{F H F' H':Hp}(ff:Same F F'):∀{rs:List W0} {as:R0},(∀a∈as,∀o,H a=some o->H' a=some o)->Yd K F H rs as->Yd K F' H' rs as
 |[],_,_,h=>h
 |r::rs,_,hh,h=>by obtain⟨a,t,vs,rfl,h1,h2,h3⟩:=h;exact⟨a,t,vs,rfl,hh a W1 _ h1,Ba.mono ff _ _ h2,Yd.mono ff (λb hb=>hh b (M1 _ hb)) h3⟩
theorem Yd.length{K:Frag}{F H:Hp}:∀{rs:List W0} {as:R0},Yd K F H rs as->rs.length=as.length
 |[],_,h=>by have:_=[]:=h;rw[this];rfl
 |r::rs,_,h=>by obtain⟨a,t,vs,rfl,_,_,h3⟩:=h;simp[h3.length]
theorem Yd.get{K:Frag}{F H:Hp}:∀{rs:List W0} {as:R0} {j:Nat} {r:W0},Yd K F H rs as->rs[j]?=some r->∃a vs,as[j]?=some a/\H a=some (.lst vs)/\Ba K F r vs
 |[],_,_,_,_,e=>by simp at e
 |r::rs,_,0,q,h,e=>by obtain⟨a,t,vs,rfl,h1,h2,h3⟩:=h;simp at e;subst e;exact⟨a,vs,rfl,h1,h2⟩
 |r::rs,_,j+1,q,h,e=>by obtain⟨a,t,vs,rfl,h1,h2,h3⟩:=h;obtain⟨b,ws,k1,k2,k3⟩:=Yd.get (j:=j) h3 (by simpa using e);exact⟨b,ws,by simpa using k1,k2,k3⟩
theorem Yd.reps{K:Frag}{F H:Hp}(fh:Same F H):∀{rs:List W0} {as:R0},Yd K F H rs as->Ba K H (rs.map .lst) (as.map .ref)
 |[],_,h=>by have e:_=[]:=h;subst e;exact Ba.nil
 |r::rs,_,h=>by obtain⟨a,t,vs,rfl,h1,h2,h3⟩:=h;exact Ba.cons (by simp only[Rep];exact⟨a,vs,rfl,.inl (.inl h1),Ba.mono fh _ _ h2⟩) (h3.reps fh)
mutual
noncomputable def zc(H:Hp):D->V->Prop
 |.non,v=>v=.non
 |.bl b,v=>v=.bl b
 |.int i,v=>v=.int i
 |.str x,v=>v=.str x
 |.lst ds,v=>∃a vs,v=.ref a/\H a=some (.lst vs)/\Nb H ds vs
 |.tup ds,v=>∃a vs,v=.ref a/\H a=some (.tup vs)/\Nb H ds vs
 |.dct kvs,v=>∃a o,v=.ref a/\H a=some (.Tc o (.dK (be kvs)))
noncomputable def Nb(H:Hp):W0->U0->Prop
 |[],vs=>vs=[]
 |d::ds,vs=>∃v r,vs=v::r/\zc H d v/\Nb H ds r
end
mutual
theorem zc.rep{K:Frag}{H:Hp}:∀(d:D) (v:V),zc H d v->Rep K H d v
 |.non,_,h=>by simp only[Rep,zc]at h |-;exact h
 |.bl _,_,h=>by simp only[Rep,zc]at h |-;exact h
 |.int _,_,h=>by simp only[Rep,zc]at h |-;exact h
 |.str _,_,h=>by simp only[Rep,zc]at h |-;exact h
 |.lst ds,v,h=>by simp only[Rep,zc]at h |-;obtain⟨a,vs,h1,h2,h3⟩:=h;exact⟨a,vs,h1,.inl (.inl h2),Nb.reps ds vs h3⟩
 |.tup ds,v,h=>by simp only[Rep,zc]at h |-;obtain⟨a,vs,h1,h2,h3⟩:=h;exact⟨a,vs,h1,.inl (.inl h2),Nb.reps ds vs h3⟩
 |.dct kvs,v,h=>by simp only[Rep,zc]at h |-;exact h
theorem Nb.reps{K:Frag}{H:Hp}:∀(ds:W0) (vs:U0),Nb H ds vs->Ba K H ds vs
 |[],_,h=>by simp only[Ba,Nb]at h |-;exact h
 |d::ds,vs,h=>by simp only[Ba,Nb]at h |-;obtain⟨v,r,h1,h2,h3⟩:=h;exact⟨v,r,h1,zc.rep d v h2,Nb.reps ds r h3⟩
end
mutual
theorem zc.mono{H H':Hp}(e:Same H H'):∀(d:D) (v:V),zc H d v->zc H' d v
 |.non,_,h=>by simp only[zc]at h |-;exact h
 |.bl _,_,h=>by simp only[zc]at h |-;exact h
 |.int _,_,h=>by simp only[zc]at h |-;exact h
 |.str _,_,h=>by simp only[zc]at h |-;exact h
 |.lst ds,v,h=>by simp only[zc]at h |-;obtain⟨a,vs,h1,h2,h3⟩:=h;exact⟨a,vs,h1,e _ _ h2,Nb.mono e ds vs h3⟩
 |.tup ds,v,h=>by simp only[zc]at h |-;obtain⟨a,vs,h1,h2,h3⟩:=h;exact⟨a,vs,h1,e _ _ h2,Nb.mono e ds vs h3⟩
 |.dct kvs,v,h=>by simp only[zc]at h |-;obtain⟨a,o,h1,h2⟩:=h;exact⟨a,o,h1,e _ _ h2⟩
theorem Nb.mono{H H':Hp}(e:Same H H'):∀(ds:W0) (vs:U0),Nb H ds vs->Nb H' ds vs
 |[],_,h=>by simp only[Nb]at h |-;exact h
 |d::ds,vs,h=>by simp only[Nb]at h |-;obtain⟨v,r,h1,h2,h3⟩:=h;exact⟨v,r,h1,zc.mono e d v h2,Nb.mono e ds r h3⟩
end
noncomputable def Uu(H:Hp)(L:R0):Hp:=λb=>if b∈L then H b else none
theorem PM{H H':Hp}{L:R0}(h:∀a∈L,∀o,H a=some o->H' a=some o):Same (Uu H L) (Uu H' L):=λb o q=>by
 unfold Uu at q |-;split at q
 .rename_i hb;rw[Q1 hb];exact h b hb o q
 .cases q
noncomputable def xName(c:Nat):Str:=(["NoTable","NoFolk","NoElement","NoPart","NotLoose","TooLarge","NoNote"]:Q0).getD c "FolkError"
noncomputable def CN(K:Frag)(c:Nat)(C:Addr):Prop:=nsIn K mainGlobals (xName c)=some (some (.ref C))
noncomputable def Xh(a C:Addr)(h:Heap):Prop:=∃o ws,h.get? a=some o/\o.cls=.ref C/\o.dict=none/\o.data=.fields ws
noncomputable def Nk(K:Frag)(B F H:Hp):Sl->Option V->R0->Prop
 |.un,_,_=>True
 |.sh d,ov,_=>∃v,ov=some v/\Rep K F d v
 |.fr d,ov,_=>∃v,ov=some v/\zc (cut F B) d v
 |.ow ds,ov,L=>∃a vs,ov=some (.ref a)/\L=[a]/\H a=some (.lst vs)/\Ba K F ds vs
 |.tab rs,ov,L=>∃a as,ov=some (.ref a)/\L=a::as/\(a::as).Nodup/\H a=some (.lst (as.map .ref))/\Yd K F H rs as
 |.dc kvs,ov,L=>∃a,ov=some (.ref a)/\L=[a]/\H a=some (.dK (be kvs))
 |.nw ds,ov,L=>∃a vs,ov=some (.ref a)/\L=[a]/\H a=some (.lst vs)/\Nb (cut F B) ds vs
 |.jk d,ov,L=>∃v,ov=some v/\zc (Uu H L) d v
 |.jl n,ov,L=>∃a vs,ov=some (.ref a)/\a∈L/\H a=some (.lst vs)/\vs.length<=n
 |.xc c,ov,_=>∃a C,ov=some (.ref a)/\CN K c C/\F a=some (.ext (Xh a C))
structure lb(K:Frag)(BF BH F H:Hp)(σ:L2.St)(env:Env)(L:Nat->R0):Prop where
 s0:Same BH H
 f0:Same BF F
 fh:Same F H
 fd:∀a o,F a=some o->BF a=some o\/BH a=none
 ow:∀i a,a∈L i->F a=none/\BH a=none/\H a≠none
 dj:∀i j a,a∈L i->a∈L j->i=j
 len:σ.length=env.length
 sl:∀i s,env[i]?=some s->∃ov,σ[i]?=some ov/\Nk K BH F H s ov (L i)
theorem jm{F F' G:Hp}(h:Same F F'):Same (cut F G) (cut F' G):=λb o q=>by
 unfold cut at q |-;split at q
 .exact h _ _ q
 .cases q
theorem Nk.ext{K:Frag}{B F H F' H':Hp}{s:Sl}{ov:Option V}{L:R0}(ff:Same F F')(hl:∀a∈L,∀o,H a=some o->H' a=some o)(h:Nk K B F H s ov L):Nk K B F' H' s ov L:=by
 cases s with
 |un=>trivial
 |sh d=>obtain⟨v,e,r⟩:=h;exact⟨v,e,Rep.mono ff _ _ r⟩
 |fr d=>obtain⟨v,e,r⟩:=h;exact⟨v,e,zc.mono (jm ff) _ _ r⟩
 |ow ds=>obtain⟨a,vs,e,rfl,h1,r⟩:=h;exact⟨a,vs,e,rfl,hl a (by simp) _ h1,Ba.mono ff _ _ r⟩
 |tab rs=>obtain⟨a,as,e,rfl,nd,h1,r⟩:=h;exact⟨a,as,e,rfl,nd,hl a W1 _ h1,r.mono ff λb hb=>hl b (M1 _ hb)⟩
 |dc _=>obtain⟨a,e,rfl,h1⟩:=h;exact⟨a,e,rfl,hl a (by simp) _ h1⟩
 |nw ds=>obtain⟨a,vs,e,rfl,h1,r⟩:=h;exact⟨a,vs,e,rfl,hl a (by simp) _ h1,Nb.mono (jm ff) _ _ r⟩
 |jk d=>obtain⟨v,e,r⟩:=h;exact⟨v,e,zc.mono (PM hl) _ _ r⟩
 |jl n=>obtain⟨a,vs,e,ha,h1,r⟩:=h;exact⟨a,vs,e,ha,hl a ha _ h1,r⟩
 |xc c=>obtain⟨a,C,e,hc,h1⟩:=h;exact⟨a,C,e,hc,ff _ _ h1⟩
theorem lb.ext{K:Frag}{BF BH F H F' H':Hp}{σ:L2.St}{env:Env}{L:Nat->R0}(S:lb K BF BH F H σ env L)(e:Ext F H F' H'):lb K BF BH F' H' σ env L where
 s0:=S.s0.trans e.hh
 f0:=S.f0.trans e.ff
 fh:=e.fh
 fd:=λa o q=>(e.dm a o q).elim (S.fd a o) λz=>.inr (S.s0.free z)
 ow:=λi a q=>by
  obtain⟨h1,h2,h3⟩:=S.ow i a q;refine⟨?_,h2,?_⟩
  .cases z:F' a with
   |none=>rfl
   |some o=>
    rcases e.dm a o z with y|y
    .rw[h1]at y;cases y
    .exact absurd y h3
  .intro z;cases y:H a with
   |none=>exact h3 y
   |some o=>rw[e.hh _ _ y]at z;cases z
 dj:=S.dj
 len:=S.len
 sl:=λi s q=>by obtain⟨ov,h1,h2⟩:=S.sl i s q;exact⟨ov,h1,h2.ext e.ff λa _ o z=>e.hh a o z⟩
inductive Md where
 |r|k|f
noncomputable def ye(BH F H:Hp):Md->Hp
 |.r=>H
 |.k=>F
 |.f=>cut F BH
theorem Jj{BH F H F' H':Hp}(e:Ext F H F' H'):∀m:Md,Same (ye BH F H m) (ye BH F' H' m)
 |.r=>e.hh
 |.k=>e.ff
 |.f=>jm e.ff
theorem Bp{BH F H:Hp}(fh:Same F H):∀m:Md,Same (ye BH F H m) H
 |.r=>.refl _
 |.k=>fh
 |.f=>Lk.trans fh
theorem Rep.Vu{K:Frag}{H H':Hp}{d:D}{v:V}(hs:xh d=true)(h:Rep K H d v):Rep K H' d v:=by cases d<;>simp_all [Rep,xh]
noncomputable def tD(K:Frag)(m:Md)(f:Ex):TE:=λσ H Q=>∃BF BH F env L d,lb K BF BH F H σ env L/\f env=some d/\
 ∀v F' H',Ext F H F' H'->Rep K (ye BH F' H' m) d v->Q v H'
noncomputable def Gn(K:Frag)(t:Tx):TT:=λσ H Q=>∃BF BH F env L b,lb K BF BH F H σ env L/\t env=some b/\
 ∀F' H',Ext F H F' H'->Q b H'
noncomputable def tO(K:Frag)(m:Md)(f:Ex):TE:=λσ H Q=>∃BF BH F env L ds,lb K BF BH F H σ env L/\f env=some (.lst ds)/\
 ∀a vs F' H',Ext F H F' H'->H a=none->H' a=some (.lst vs)->F' a=none->Ba K (ye BH F' H' m) ds vs->Q (.ref a) H'
structure PD(X:Cx)(m:Md)(e:Expr)(f:Ex):Prop where
 h:PE X e (tD X.K m f)
noncomputable def ze(X:Cx)(m:Md)(e:Expr)(f:Ex):Prop:=PE X e (tO X.K m f)
noncomputable def Ke(X:Cx)(e:Expr)(t:Tx):Prop:=PT X e (Gn X.K t)
theorem PE.of{X:Cx}{e:Expr}{t t':TE}(h:PE X e t')(i:∀σ H Q,t σ H Q->t' σ H Q):PE X e t:=λpins s σ H Q I q=>h pins s σ H Q I (i σ H Q q)
theorem PT.of{X:Cx}{e:Expr}{t t':TT}(h:PT X e t')(i:∀σ H Q,t σ H Q->t' σ H Q):PT X e t:=λpins s σ H Q I q=>h pins s σ H Q I (i σ H Q q)
theorem PW.of{X:Cx}{e:Expr}{t t':TT}(h:PW X e t')(i:∀σ H Q,t σ H Q->t' σ H Q):PW X e t:=λwh pins s σ H Q I q=>h wh pins s σ H Q I (i σ H Q q)
theorem PS.of{X:Cx}{e:Stmt}{t t':TS}(h:PS X e t')(i:∀D σ H,t D σ H->t' D σ H):PS X e t:=λpins s σ H D I q=>h pins s σ H D I (i D σ H q)
theorem Pe.of{X:Cx}{e:List Stmt}{t t':TS}(h:Pe X e t')(i:∀D σ H,t D σ H->t' D σ H):Pe X e t:=λpins s σ H D I q=>h pins s σ H D I (i D σ H q)
section
variable{X:Cx}{m:Md}{a b c:Expr}{f g h:Ex}{pos:Pos}
theorem PD.r(h:PD X m a f):PD X .r a f:=PD.mk<|PE.of h.h λσ H Q ⟨BF,BH,F,env,L,d,S,e,q⟩=>
 ⟨BF,BH,F,env,L,d,S,e,λv F' H' x r=>q v F' H' x (Rep.mono (Bp x.fh m) _ _ r)⟩
theorem ze.d(h:ze X m a f)(hf:∀env d,f env=some d->∃ds,d=.lst ds):PD X m a f:=PD.mk<|PE.of h λσ H Q Ca=>Cb Ca λBF BH F env L d S e q=>by
 obtain⟨ds,rfl⟩:=hf env d e;refine⟨BF,BH,F,env,L,ds,S,e,λp vs F' H' x hp h1 h2 r=>?_⟩;have x':=x.Tc hp h1 h2;refine q (.ref p) (upd F' p (.lst vs)) H' x' ?_;have hB:BH p=none:=S.s0.free hp;have s:Same (ye BH F' H' m) (ye BH (upd F' p (.lst vs)) H' m):=by
  have ss:Same F' (upd F' p (.lst vs)):=λb u e=>by rw[rb (Vc e h2)];exact e
  cases m with
  |r=>exact .refl _
  |k=>exact ss
  |f=>exact jm ss
 simp only[Rep];refine⟨p,vs,rfl,.inl (.inl ?_),Ba.mono s _ _ r⟩;cases m with
 |r=>exact h1
 |k=>exact Lb
 |f=>show cut _ _ p=_;rw[Mk hB];exact Lb
noncomputable def Zb:Expr->Bool
 |.Starred _ _=>false
 |_=>true
noncomputable def yg:T0->Bool
 |[]=>true
 |e::es=>Zb e&&yg es
theorem Pc{e:Expr}{es:T0}{env:PySem.Env}(h:Zb e=true):starEach (e::es) env=(false,eval e env)::starEach es env:=by cases e<;>first|rfl|(cases h)
theorem Gd{e:Expr}{env:PySem.Env}(h:Zb e=true):starEach [e] env=[(false,eval e env)]:=(Pc h).trans rfl
theorem Pk{env:PySem.Env}{pos:Pos}:∀{es:T0},yg es=true->(backTo pos (starEach es env)).any (·.1)=false
 |[],_=>rfl
 |e::es,h=>by unfold yg at h;rw[Z2]at h;rw[Pc h.1];show(false||(backTo pos (starEach es env)).any (·.1))=false;rw[Pk h.2];rfl
theorem Kj{env:PySem.Env}{pos:Pos}:∀{es:T0},yg es=true->(backTo pos (starEach es env)).all (λx=>!x.1)=true
 |[],_=>rfl
 |e::es,h=>by unfold yg at h;rw[Z2]at h;rw[Pc h.1];show(true&&(backTo pos (starEach es env)).all (λx=>!x.1))=true;rw[Kj h.2];rfl
theorem qD{a b:Expr}(h:Zb a=true)(h2:Zb b=true):yg [a,b]=true:=by unfold yg yg yg;rw[h,h2];rfl
theorem Lj{a:Expr}(h:Zb a=true):yg [a]=true:=by unfold yg yg;rw[h];rfl
noncomputable def Ee(sc:Scope)(x:Str):Bool:=match sc.names.lookup x with
 |some .local=>true
 |some .cell=>true
 |some .free=>true
 |_=>false
theorem Cf{sc:Scope}{x:Str}(h:Ee sc x=true):L2.ju sc x:=by
 unfold Ee at h;split at h
 .rename_i e;exact .inl e
 .rename_i e;exact .inr (.inl e)
 .rename_i e;exact .inr (.inr e)
 .cases h
noncomputable def zg(sc:Scope)(x:Str):Bool:=match sc.names.lookup x with
 |some .local=>true
 |some .cell=>true
 |_=>false
theorem Bh{sc:Scope}{x:Str}(h:zg sc x=true):L2.Loc sc x:=by
 unfold zg at h;split at h
 .rename_i e;exact .inl e
 .rename_i e;exact .inr e
 .cases h
noncomputable def Bg(X:Cx)(x:Str):Bool:=X.fn x||(match X.env.scope.names.lookup x with
 |some .local=>true
 |_=>false)
theorem Dh{X:Cx}{x:Str}(h:Bg X x=true):X.fn x=true\/X.env.scope.names.lookup x=some .local:=by
 unfold Bg at h;rw[Bool.or_eq_true]at h;rcases h with h|h
 .exact .inl h
 .split at h
  .rename_i e;exact .inr e
  .cases h
theorem QM{i j}:PD X m (.Constant (.int i) j pos) (eC (.int i)):=PD.mk<|PE.of Px λσ H Q Ca=>Cb Ca λBF BH F env L d S e q=>by cases e;exact q _ F H (.refl S.fh) (by simp[Rep])
theorem RM{i j}:PD X m (.Constant (.bool i) j pos) (eC (.bl i)):=PD.mk<|PE.of L2.ZJ λσ H Q Ca=>Cb Ca λBF BH F env L d S e q=>by cases e;exact q _ F H (.refl S.fh) (by simp[Rep])
theorem SM{i j}:PD X m (.Constant (.str i) j pos) (eC (.str i)):=PD.mk<|PE.of Qx λσ H Q Ca=>Cb Ca λBF BH F env L d S e q=>by cases e;exact q _ F H (.refl S.fh) (by simp[Rep])
theorem Jy{j}:PD X m (.Constant .none j pos) (eC .non):=PD.mk<|PE.of VB λσ H Q Ca=>Cb Ca λBF BH F env L d S e q=>by cases e;exact q _ F H (.refl S.fh) (by simp[Rep])
theorem Dr{i j p2}:PD X m (.UnaryOp .USub (.Constant (.int i) j p2) pos) (eC (.int (-i))):=PD.mk<|PE.of (L2.RK L2.dL Px) λσ H Q Ca=>Cb Ca λBF BH F env L d S e q=>by cases e;exact⟨i,rfl,q _ F H (.refl S.fh) (by simp[Rep])⟩
theorem ja(i:Nat){x:Str}(hN:X.N[i]?=some x:=by kernel_rfl)(hv:Ee X.env.scope x=true:=by kernel_rfl)(hd:(x==("__debug__":Str))=false:=by kernel_rfl)(Mb:(x==("__classdict__":Str))=false:=by kernel_rfl):PD X .k (.Name x pos) (aa i):=PD.mk<|PE.of (kf hN (Cf hv) hd Mb) λσ H Q Ca=>Cb Ca λBF BH F env L d S e q=>by
 unfold aa at e;cases he:env[i]? with
 |none=>rw[he]at e;cases e
 |some s=>
  rw[he]at e;obtain⟨ov,h1,h2⟩:=S.sl i s he;cases s with
  |sh d'=>cases e;obtain⟨v,rfl,r⟩:=h2;exact⟨v,h1,q v F H (.refl S.fh) r⟩
  |fr d'=>cases e;obtain⟨v,rfl,r⟩:=h2;exact⟨v,h1,q v F H (.refl S.fh) (zc.rep _ _ (zc.mono Lk _ _ r))⟩
  |un=>cases e
  |ow _=>cases e
  |tab _=>cases e
  |dc _=>cases e
  |nw _=>cases e
  |jk _=>cases e
  |jl _=>cases e
  |xc _=>cases e
theorem Hn(i:Nat){x:Str}(hN:X.N[i]?=some x:=by kernel_rfl)(hv:Ee X.env.scope x=true:=by kernel_rfl)(hd:(x==("__debug__":Str))=false:=by kernel_rfl)(Mb:(x==("__classdict__":Str))=false:=by kernel_rfl):PD X .r (.Name x pos) (Ed i):=PD.mk<|PE.of (kf hN (Cf hv) hd Mb) λσ H Q Ca=>Cb Ca λBF BH F env L d S e q=>by
 unfold Ed at e;cases he:env[i]? with
 |none=>rw[he]at e;cases e
 |some s=>
  rw[he]at e;obtain⟨ov,h1,h2⟩:=S.sl i s he;cases s with
  |sh d'=>cases e;obtain⟨v,rfl,r⟩:=h2;exact⟨v,h1,q v F H (.refl S.fh) (Rep.mono S.fh _ _ r)⟩
  |fr d'=>cases e;obtain⟨v,rfl,r⟩:=h2;exact⟨v,h1,q v F H (.refl S.fh) (zc.rep _ _ (zc.mono (Lk.trans S.fh) _ _ r))⟩
  |un=>cases e
  |ow ds=>cases e;obtain⟨p,vs,rfl,_,h3,r⟩:=h2;refine⟨_,h1,q _ F H (.refl S.fh) ?_⟩;simp only[Rep,ye];exact⟨p,vs,rfl,.inl (.inl h3),Ba.mono S.fh _ _ r⟩
  |tab rs=>cases e;obtain⟨p,as,rfl,_,_,h3,r⟩:=h2;refine⟨_,h1,q _ F H (.refl S.fh) ?_⟩;simp only[Rep,ye];exact⟨p,_,rfl,.inl (.inl h3),r.reps S.fh⟩
  |dc _=>cases e
  |nw ds=>cases e;obtain⟨p,vs,rfl,_,h3,r⟩:=h2;refine⟨_,h1,q _ F H (.refl S.fh) ?_⟩;simp only[Rep,ye];exact⟨p,vs,rfl,.inl (.inl h3),Nb.reps _ _ (Nb.mono (Lk.trans S.fh) _ _ r)⟩
  |jk _=>cases e
  |jl _=>cases e
  |xc _=>cases e
theorem rD{x:Str}{i:Int}(hg:X.env.kindOf x=some .globalImplicit:=by kernel_rfl)(hm:∃t,X.mg x=some (.int i t))(hd:(x==("__debug__":Str))=false:=by kernel_rfl):PD X m (.Name x pos) (eC (.int i)):=by obtain⟨t,hm⟩:=hm;exact PD.mk<|PE.of (WB (v:=.int i) hg hm ⟨t,rfl⟩ hd) λσ H Q Ca=>Cb Ca λBF BH F env L d S e q=>by cases e;exact q _ F H (.refl S.fh) (by simp[Rep])
theorem sD(h:PD X .r a f):PD X m a (Ti f):=PD.mk<|PE.of h.h λσ H Q Ca=>Cb Ca λBF BH F env L d S e q=>by
 unfold Ti at e;cases he:f env with
 |none=>rw[he]at e;cases e
 |some d'=>
  rw[he]at e;dsimp only at e;split at e
  .rename_i hs;cases e;exact⟨BF,BH,F,env,L,_,S,he,λv F' H' x r=>q v F' H' x (r.Vu hs)⟩
  .cases e
theorem two{m1 m2:Md}{R:V->V->Hp->Prop}{σ:L2.St}{H BF BH F:Hp}{env:Env}{L:Nat->R0}{x y:D}(S:lb X.K BF BH F H σ env L)(e1:f env=some x)(e2:g env=some y)(k:∀v w F' H',Ext F H F' H'->Rep X.K (ye BH F' H' m1) x v->Rep X.K (ye BH F' H' m2) y w->R v w H'):tD X.K m1 f σ H λv H1=>tD X.K m2 g σ H1 λw H2=>R v w H2:=
 ⟨BF,BH,F,env,L,x,S,e1,λv F1 H1 x1 r1=>⟨BF,BH,F1,env,L,y,S.ext x1,e2,λw F2 H2 x2 r2=>k v w F2 H2 (x1.trans x2) (Rep.mono (Jj x2 m1) _ _ r1) r2⟩⟩
theorem pd{K:Frag}{H:Hp}{i:Int}{v:V}(h:Rep K H (.int i) v):v=.int i:=by simpa[Rep]using h
theorem Wu{op:Operator}{C:Int->Int->Prop}{G:Int->Int->Int}{φ:Int->Int->Option D}(ho:Qd X (binaryOp op) (L2.rI C λi j=>.int (G i j)))(hφ:∀i j d,φ i j=some d->C i j/\d=.int (G i j)){m1 m2:Md}(ha:PD X m1 a f)(hb:PD X m2 b g):PD X m (.BinOp a op b pos) (Ma φ f g):=
 PD.mk<|PE.of (Xx ho ha.h hb.h) λσ H Q Ca=>Cb Ca λBF BH F env L d S e q=>by
  unfold Ma at e;split at e
  .rename_i i j h1 h2;refine two S h1 h2 λv w F' H' x r1 r2=>?_;obtain⟨hc,rfl⟩:=hφ i j d e;exact⟨i,j,pd r1,pd r2,hc,q _ F' H' x (by simp[Rep])⟩
  .cases e
theorem TM{op:Operator}{G:Int->Int->Int}{φ:Int->Int->Option D}(ho:Qd X (binaryOp op) (zk λi j=>.int (G i j)))(hφ:∀i j d,φ i j=some d->d=.int (G i j)){m1 m2:Md}(ha:PD X m1 a f)(hb:PD X m2 b g):PD X m (.BinOp a op b pos) (Ma φ f g):=
 PD.mk<|PE.of (Xx ho ha.h hb.h) λσ H Q Ca=>Cb Ca λBF BH F env L d S e q=>by
  unfold Ma at e;split at e
  .rename_i i j h1 h2;refine two S h1 h2 λv w F' H' x r1 r2=>?_;obtain rfl:=hφ i j d e;exact⟨i,j,pd r1,pd r2,q _ F' H' x (by simp[Rep])⟩
  .cases e
variable{m1 m2 m3:Md}
theorem Cp(ha:PD X m1 a f)(hb:PD X m2 b g):PD X m (.BinOp a .Sub b pos) (Ma Lg f g):=TM L2.WK (λi j d h=>by cases h;rfl) ha hb
theorem UM(ha:PD X m1 a f)(hb:PD X m2 b g):PD X m (.BinOp a .Mult b pos) (Ma Td f g):=Wu L2.YK (λi j d h=>by
 unfold Td at h;split at h
 .rename_i hc;cases h;exact⟨hc,rfl⟩
 .cases h) ha hb
theorem VM(ha:PD X m1 a f)(hb:PD X m2 b g):PD X m (.BinOp a .Mod b pos) (Ma Gb f g):=Wu L2.aL (λi j d h=>by
 unfold Gb at h;split at h
 .rename_i hc;cases h;exact⟨hc,rfl⟩
 .cases h) ha hb
theorem WM(ha:PD X m1 a f)(hb:PD X m2 b g):PD X m (.BinOp a .FloorDiv b pos) (Ma je f g):=Wu L2.ZK (λi j d h=>by
 unfold je at h;split at h
 .rename_i hc;cases h;exact⟨hc,rfl⟩
 .cases h) ha hb
theorem Ky(ha:PD X m1 a f)(hb:PD X m2 b g):PD X m (.BinOp a .Pow b pos) (Ma gn f g):=Wu L2.bL (λi j d h=>by
 unfold gn at h;split at h
 .rename_i hc;cases h;have z:i.natAbs<=1000:=by omega
  exact⟨⟨hc.1,by omega,j8 z (by decide)⟩,rfl⟩
 .cases h) ha hb
end
mutual
noncomputable def Hr(s:Shared):D->Value->Prop
 |.non,u=>u=.none
 |.bl b,u=>u=.bool b
 |.int i,u=>∃t,u=.int i t
 |.str x,u=>∃t,u=.str x t
 |.lst ds,u=>∃a its,u=.ref a/\s.heap.IsList a its.toArray/\Qb s ds its
 |.tup ds,u=>∃a its,u=.ref a/\s.heap.IsTuple a its.toArray/\Qb s ds its
 |.dct _,_=>False
noncomputable def Qb(s:Shared):W0->P0->Prop
 |[],us=>us=[]
 |d::ds,us=>∃u r,us=u::r/\Hr s d u/\Qb s ds r
end
mutual
theorem Yh{X:Cx}{pins:M0}{σ:L2.St}{H:Hp}{s:Shared}(I:Inv X pins σ H s):∀(d:D) (x:V) (u:Value),d.dep<100->Rep X.K H d x->RelV x u->Hr s d u
 |.non,x,u,_,h,r=>by simp only[Rep]at h;subst h;simp only[Hr];exact r
 |.bl b,x,u,_,h,r=>by simp only[Rep]at h;subst h;simp only[Hr];exact r
 |.int i,x,u,_,h,r=>by simp only[Rep]at h;subst h;simp only[Hr];exact r
 |.str i,x,u,_,h,r=>by simp only[Rep]at h;subst h;simp only[Hr];exact r
 |.lst ds,x,u,hd,h,r=>by simp only[D.dep]at hd;simp only[Rep]at h;obtain⟨a,vs,rfl,hs,t⟩:=h;obtain⟨its,rv,p,_⟩:=I.list hs;cases r;simp only[Hr];exact⟨a,its,rfl,p.isList,Ly I ds vs its (by omega) t rv⟩
 |.dct ds,x,u,hd,h,r=>by simp[D.dep]at hd
 |.tup ds,x,u,hd,h,r=>by simp only[D.dep]at hd;simp only[Rep]at h;obtain⟨a,vs,rfl,hs,t⟩:=h;obtain⟨its,rv,p,_⟩:=I.tuple hs;cases r;simp only[Hr];exact⟨a,its,rfl,p,Ly I ds vs its (by omega) t rv⟩
theorem Ly{X:Cx}{pins:M0}{σ:L2.St}{H:Hp}{s:Shared}(I:Inv X pins σ H s):∀(ds:W0) (vs:U0) (us:P0),D.deps ds<100->Ba X.K H ds vs->Vals vs us->Qb s ds us
 |[],vs,us,_,h,r=>by simp only[Ba]at h;subst h;cases r;simp[Qb]
 |d::ds,vs,us,hd,h,r=>by
  simp only[D.deps]at hd;simp only[Ba]at h;obtain⟨v,t,rfl,h1,h2⟩:=h;cases r with
  |cons r1 r2=>simp only[Qb];exact⟨_,_,rfl,Yh I d v _ (by omega) h1 r1,Ly I ds t _ (by omega) h2 r2⟩
end
section
variable{s:Shared}
theorem Qb.length:∀{ds:W0} {us:P0},Qb s ds us->ds.length=us.length
 |[],us,h=>by simp only[Qb]at h;subst h;rfl
 |d::ds,us,h=>by simp only[Qb]at h;obtain⟨u,r,rfl,_,t⟩:=h;simp[Qb.length t]
theorem Qb.get:∀{ds:W0} {us:P0} {j:Nat} (h1:j<ds.length) (h2:j<us.length),Qb s ds us->Hr s ds[j] us[j]
 |[],us,j,h1,h2,h=>by simp at h1
 |d::ds,us,0,h1,h2,h=>by simp only[Qb]at h;obtain⟨u,r,rfl,x,t⟩:=h;exact x
 |d::ds,us,j+1,h1,h2,h=>by simp only[Qb]at h;obtain⟨u,r,rfl,x,t⟩:=h;exact Qb.get (j:=j) (by simpa using h1) (by simpa using h2) t
theorem uD{h:Heap}{a:Addr}{xs ys:P0}(h1:h.IsList a xs.toArray)(h2:h.IsList a ys.toArray):xs=ys:=by obtain⟨o,e,c,n,d⟩:=h1;obtain⟨o',e',c',n',d'⟩:=h2;rw[e]at e';cases e';rw[d]at d';injection d' with d1 _;have:=p5 Array.toList d1;simpa using this
theorem vD{h:Heap}{a:Addr}{xs ys:P0}(h1:h.IsTuple a xs.toArray)(h2:h.IsTuple a ys.toArray):xs=ys:=by obtain⟨o,e,c,n,d⟩:=h1;obtain⟨o',e',c',n',d'⟩:=h2;rw[e]at e';cases e';rw[d]at d';injection d' with d1 _;have:=p5 Array.toList d1;simpa using this
mutual
theorem Hr.func:∀(d e:D) (u:Value),Hr s d u->Hr s e u->d=e
 |.lst ds,.lst es,u,h1,h2=>by simp only[Hr]at h1 h2;obtain⟨a,its,rfl,l1,r1⟩:=h1;obtain⟨b,its2,e,l2,r2⟩:=h2;cases e;obtain rfl:=uD l1 l2;rw[Qb.func ds es its r1 r2]
 |.tup ds,.tup es,u,h1,h2=>by simp only[Hr]at h1 h2;obtain⟨a,its,rfl,l1,r1⟩:=h1;obtain⟨b,its2,e,l2,r2⟩:=h2;cases e;obtain rfl:=vD l1 l2;rw[Qb.func ds es its r1 r2]
 |.lst ds,.tup es,u,h1,h2=>by simp only[Hr]at h1 h2;obtain⟨a,its,rfl,l1,r1⟩:=h1;obtain⟨b,its2,e,l2,r2⟩:=h2;cases e;exact absurd rfl (A9 l1 l2)
 |.tup ds,.lst es,u,h1,h2=>by simp only[Hr]at h1 h2;obtain⟨a,its,rfl,l1,r1⟩:=h1;obtain⟨b,its2,e,l2,r2⟩:=h2;cases e;exact absurd rfl (A9 l2 l1)
 |.non,e,u,h1,h2=>by simp only[Hr]at h1;subst h1;cases e<;>simp[Hr]at h2<;>first|rfl|(obtain⟨_,_,_,_⟩:=h2)|skip
 |.bl b,e,u,h1,h2=>by simp only[Hr]at h1;subst h1;cases e<;>simp[Hr]at h2<;>first|(rw[h2])|skip
 |.int i,e,u,h1,h2=>by simp only[Hr]at h1;obtain⟨t,rfl⟩:=h1;cases e<;>simp[Hr]at h2<;>first|(rw[h2])|skip
 |.str i,e,u,h1,h2=>by simp only[Hr]at h1;obtain⟨t,rfl⟩:=h1;cases e<;>simp[Hr]at h2<;>first|(rw[h2])|skip
 |.lst ds,.non,u,h1,h2=>by simp only[Hr]at h1 h2;obtain⟨_,_,rfl,_⟩:=h1;cases h2
 |.lst ds,.bl _,u,h1,h2=>by simp only[Hr]at h1 h2;obtain⟨_,_,rfl,_⟩:=h1;cases h2
 |.lst ds,.int _,u,h1,h2=>by simp only[Hr]at h1 h2;obtain⟨_,_,rfl,_⟩:=h1;obtain⟨_,h2⟩:=h2;cases h2
 |.lst ds,.str _,u,h1,h2=>by simp only[Hr]at h1 h2;obtain⟨_,_,rfl,_⟩:=h1;obtain⟨_,h2⟩:=h2;cases h2
 |.tup ds,.non,u,h1,h2=>by simp only[Hr]at h1 h2;obtain⟨_,_,rfl,_⟩:=h1;cases h2
 |.tup ds,.bl _,u,h1,h2=>by simp only[Hr]at h1 h2;obtain⟨_,_,rfl,_⟩:=h1;cases h2
 |.tup ds,.int _,u,h1,h2=>by simp only[Hr]at h1 h2;obtain⟨_,_,rfl,_⟩:=h1;obtain⟨_,h2⟩:=h2;cases h2
 |.dct _,e,u,h1,h2=>by cases h1
 |.lst _,.dct _,u,h1,h2=>by cases h2
 |.tup _,.dct _,u,h1,h2=>by cases h2
 |.tup ds,.str _,u,h1,h2=>by simp only[Hr]at h1 h2;obtain⟨_,_,rfl,_⟩:=h1;obtain⟨_,h2⟩:=h2;cases h2
theorem Qb.func:∀(ds es:W0) (us:P0),Qb s ds us->Qb s es us->ds=es
 |[],[],_,_,_=>rfl
 |[],e::es,us,h1,h2=>by simp only[Qb]at h1 h2;subst h1;obtain⟨_,_,h,_⟩:=h2;cases h
 |d::ds,[],us,h1,h2=>by simp only[Qb]at h1 h2;subst h2;obtain⟨_,_,h,_⟩:=h1;cases h
 |d::ds,e::es,us,h1,h2=>by simp only[Qb]at h1 h2;obtain⟨u,r,rfl,x,t⟩:=h1;obtain⟨u',r',e',x',t'⟩:=h2;cases e';rw[Hr.func d e u x x',Qb.func ds es r t t']
end
theorem Er:∀(ds es:W0),ds.length=es.length->(List.range ds.length).all (λj=>Pb (ds.getD j .non) (es.getD j .non))=lf ds es
 |[],[],_=>by simp[lf]
 |[],_::_,h=>by simp at h
 |_::_,[],h=>by simp at h
 |d::ds,e::es,h=>by have ih:=Er ds es (by simpa using h);rw[W4,P7,O6,R7];simp only[lf];rw[<-ih];rfl
theorem Gr:∀(ds es:W0),ds.length≠es.length->lf ds es=false
 |[],[],h=>absurd rfl h
 |[],_::_,_=>by simp[lf]
 |_::_,[],_=>by simp[lf]
 |d::ds,e::es,h=>by simp only[lf,Gr ds es (by simpa using h),a7]
theorem Xu:∀{ds:W0} {j:Nat} (h:j<ds.length),(ds[j]).dep<=D.deps ds
 |[],_,h=>by simp at h
 |d::ds,0,h=>by simp only[D.deps];exact Nat.le_max_left _ _
 |d::ds,j+1,h=>by simp only[D.deps];exact E3 (Xu (j:=j) (by simpa using h)) (Nat.le_max_right _ _)
noncomputable def Ih(s:Shared)(A:Around)(x:W0):Prop:=∀j (h:j<x.length) (e:D) (u v:Value),A.units+(x[j]).dep<cLine->Hr s x[j] u->Hr s e v->SeqAt.EqAt A s u v (Pb x[j] e)
theorem items{A:Around}{x y:W0}{sd Eb:P0}(ih:Ih s A.in1 x)(hu:A.units+D.deps x+1<cLine)(hl:x.length=y.length)(xr:Qb s x sd)(yr:Qb s y Eb):∀j (h1:j<sd.toArray.size) (h2:j<Eb.toArray.size),SeqAt.EqAt A.in1 s sd.toArray[j] Eb.toArray[j] (Pb (x.getD j .non) (y.getD j .non)):=λj h1 h2=>by
 have k1:j<x.length:=by rw[xr.length];simpa using h1
 have k2:j<y.length:=by rw[<-hl];exact k1
 have e1:x.getD j .non=x[j]:=by simp[List.getD,k1]
 have e2:y.getD j .non=y[j]:=by simp[List.getD,k2]
 rw[e1,e2];have hd:=Xu (ds:=x) k1;have a1:=xr.get k1 (by rw[<-xr.length];exact k1);have a2:=yr.get k2 (by rw[<-yr.length];exact k2);refine ih j k1 _ _ _ ?_ (by simpa using a1) (by simpa using a2);show A.units+1+_<cLine;omega
theorem wD{A:Around}{xa ya:Addr}{sd Eb:P0}(x y:W0)(hu:A.units+D.deps x+1<cLine)(xl:s.heap.IsList xa sd.toArray)(yl:s.heap.IsList ya Eb.toArray)(xr:Qb s x sd)(yr:Qb s y Eb)(ih:Ih s A.in1 x):SeqAt.RcAt A s (.ref xa) (.ref ya) (Pb (.lst x) (.lst y)):=by
 simp only[Pb];by_cases hl:x.length=y.length
 .have e:=SeqAt.RcAt.lists (e:=λj=>Pb (x.getD j .non) (y.getD j .non)) xl yl (by simp[<-xr.length,<-yr.length,hl]) (by omega) (items ih hu hl xr yr);rw[show sd.toArray.size=x.length by simp[xr.length],Er x y hl]at e;exact e
 .rw[Gr x y hl];exact SeqAt.RcAt.lists_lengths xl yl (by simp[<-xr.length,<-yr.length,hl]) (by omega)
theorem xD{A:Around}{xa ya:Addr}{sd Eb:P0}(x y:W0)(hu:A.units+D.deps x+1<cLine)(xl:s.heap.IsTuple xa sd.toArray)(yl:s.heap.IsTuple ya Eb.toArray)(xr:Qb s x sd)(yr:Qb s y Eb)(ih:Ih s A.in1 x):SeqAt.RcAt A s (.ref xa) (.ref ya) (Pb (.tup x) (.tup y)):=by
 simp only[Pb];have e:=SeqAt.RcAt.tuples (A:=A) (e:=λj=>Pb (x.getD j .non) (y.getD j .non)) xl yl (by omega) (λj h1 h2=>by
  have k1:j<x.length:=by rw[xr.length];simpa using h1
  have k2:j<y.length:=by rw[yr.length];simpa using h2
  have e1:x.getD j .non=x[j]:=by simp[List.getD,k1]
  have e2:y.getD j .non=y[j]:=by simp[List.getD,k2]
  rw[e1,e2];have hd:=Xu (ds:=x) k1;have a1:=xr.get k1 (by rw[<-xr.length];exact k1);have a2:=yr.get k2 (by rw[<-yr.length];exact k2);refine ih j k1 _ _ _ ?_ (by simpa using a1) (by simpa using a2);show A.units+1+_<cLine;omega)
 have z:((List.range (min sd.toArray.size Eb.toArray.size)).all (λj=>Pb (x.getD j .non) (y.getD j .non))&&sd.toArray.size==Eb.toArray.size)=lf x y:=by
  rw[show sd.toArray.size=x.length by simp[xr.length],show Eb.toArray.size=y.length by simp[yr.length]];by_cases hl:x.length=y.length
  .rw[<-hl,Nat.min_self,Er x y hl];simp
  .rw[Gr x y hl,g5.mpr hl,a7]
 rw[z]at e;exact e
theorem XM{A:Around}{xa ya:Addr}{sd Eb:P0}(x y:W0)(hu:A.units+D.deps x+1<cLine)(xl:s.heap.IsList xa sd.toArray)(yl:s.heap.IsList ya Eb.toArray)(xr:Qb s x sd)(yr:Qb s y Eb)(ih:Ih s A.in1 x):SeqAt.EqAt A s (.ref xa) (.ref ya) (Pb (.lst x) (.lst y)):=by
 by_cases ha:xa=ya
 .subst ha;obtain rfl:=uD xl yl;obtain rfl:=Qb.func _ _ _ xr yr;rw[qy];exact G8 _
 .exact .of_refs ha (wD x y hu xl yl xr yr ih)
theorem YM{A:Around}{xa ya:Addr}{sd Eb:P0}(x y:W0)(hu:A.units+D.deps x+1<cLine)(xl:s.heap.IsTuple xa sd.toArray)(yl:s.heap.IsTuple ya Eb.toArray)(xr:Qb s x sd)(yr:Qb s y Eb)(ih:Ih s A.in1 x):SeqAt.EqAt A s (.ref xa) (.ref ya) (Pb (.tup x) (.tup y)):=by
 by_cases ha:xa=ya
 .subst ha;obtain rfl:=vD xl yl;obtain rfl:=Qb.func _ _ _ xr yr;rw[qy];exact G8 _
 .exact .of_refs ha (xD x y hu xl yl xr yr ih)
theorem ZM{A:Around}{xa ya:Addr}{sd Eb:P0}(x y:W0)(hu:A.units+D.deps x+1<cLine)(xl:s.heap.IsList xa sd.toArray)(yl:s.heap.IsList ya Eb.toArray)(xr:Qb s x sd)(yr:Qb s y Eb)(ih:Ih s A.in1 x):SeqAt.RcNeAt A s (.ref xa) (.ref ya) (!Pb (.lst x) (.lst y)):=by
 simp only[Pb];by_cases hl:x.length=y.length
 .have e:=SeqAt.RcNeAt.lists (e:=λj=>Pb (x.getD j .non) (y.getD j .non)) xl yl (by simp[<-xr.length,<-yr.length,hl]) (by omega) (items ih hu hl xr yr);rw[show sd.toArray.size=x.length by simp[xr.length],Er x y hl]at e;exact e
 .rw[Gr x y hl];exact SeqAt.RcNeAt.lists_lengths xl yl (by simp[<-xr.length,<-yr.length,hl]) (by omega)
theorem aN{A:Around}{xa ya:Addr}{sd Eb:P0}(x y:W0)(hu:A.units+D.deps x+1<cLine)(xl:s.heap.IsTuple xa sd.toArray)(yl:s.heap.IsTuple ya Eb.toArray)(xr:Qb s x sd)(yr:Qb s y Eb)(ih:Ih s A.in1 x):SeqAt.RcNeAt A s (.ref xa) (.ref ya) (!Pb (.tup x) (.tup y)):=by
 simp only[Pb];have e:=SeqAt.RcNeAt.tuples (A:=A) (e:=λj=>Pb (x.getD j .non) (y.getD j .non)) xl yl (by omega) (λj h1 h2=>by
  have k1:j<x.length:=by rw[xr.length];simpa using h1
  have k2:j<y.length:=by rw[yr.length];simpa using h2
  have e1:x.getD j .non=x[j]:=by simp[List.getD,k1]
  have e2:y.getD j .non=y[j]:=by simp[List.getD,k2]
  rw[e1,e2];have hd:=Xu (ds:=x) k1;have a1:=xr.get k1 (by rw[<-xr.length];exact k1);have a2:=yr.get k2 (by rw[<-yr.length];exact k2);refine ih j k1 _ _ _ ?_ (by simpa using a1) (by simpa using a2);show A.units+1+_<cLine;omega)
 have z:((List.range (min sd.toArray.size Eb.toArray.size)).all (λj=>Pb (x.getD j .non) (y.getD j .non))&&sd.toArray.size==Eb.toArray.size)=lf x y:=by
  rw[show sd.toArray.size=x.length by simp[xr.length],show Eb.toArray.size=y.length by simp[yr.length]];by_cases hl:x.length=y.length
  .rw[<-hl,Nat.min_self,Er x y hl];simp
  .rw[Gr x y hl,g5.mpr hl,a7]
 rw[z]at e;exact e
noncomputable def D.kids:D->W0
 |.lst xs=>xs
 |.tup xs=>xs
 |_=>[]
theorem Dp{A:Around}(d e:D)(u v:Value)(hu:A.units+d.dep<cLine)(h1:Hr s d u)(h2:Hr s e v)(ih:Ih s A.in1 d.kids):SeqAt.EqAt A s u v (Pb d e):=by
 have Ub:A.units<cLine:=by omega
 cases d with
 |dct x=>cases h1
 |non=>
  cases h1;cases e with
  |dct y=>cases h2
  |non=>cases h2;exact G8 _
  |bl y=>cases h2;exact SeqAt.EqAt.none_bool y
  |int y=>obtain⟨yt,rfl⟩:=h2;exact SeqAt.EqAt.none_int y yt
  |str y=>obtain⟨yt,rfl⟩:=h2;exact SeqAt.EqAt.none_str y yt
  |lst y=>obtain⟨ya,Eb,rfl,yl,yr⟩:=h2;exact SeqAt.EqAt.none_list yl Ub
  |tup y=>obtain⟨ya,Eb,rfl,yl,yr⟩:=h2;exact SeqAt.EqAt.none_tuple yl Ub
 |bl x=>
  cases h1;cases e with
  |dct y=>cases h2
  |non=>cases h2;exact SeqAt.EqAt.bool_none x
  |bl y=>cases h2;exact SeqAt.EqAt.bool_bool x y
  |int y=>obtain⟨yt,rfl⟩:=h2;exact SeqAt.EqAt.bool_int x y yt
  |str y=>obtain⟨yt,rfl⟩:=h2;exact SeqAt.EqAt.bool_str x y yt
  |lst y=>obtain⟨ya,Eb,rfl,yl,yr⟩:=h2;exact SeqAt.EqAt.bool_list x yl Ub
  |tup y=>obtain⟨ya,Eb,rfl,yl,yr⟩:=h2;exact SeqAt.EqAt.bool_tuple x yl Ub
 |int x=>
  obtain⟨xt,rfl⟩:=h1;cases e with
  |dct y=>cases h2
  |non=>cases h2;exact SeqAt.EqAt.int_none x xt
  |bl y=>cases h2;exact SeqAt.EqAt.int_bool x xt y
  |int y=>obtain⟨yt,rfl⟩:=h2;exact SeqAt.EqAt.int_int x xt y yt
  |str y=>obtain⟨yt,rfl⟩:=h2;exact Zaj x xt y yt
  |lst y=>obtain⟨ya,Eb,rfl,yl,yr⟩:=h2;exact SeqAt.EqAt.int_list x xt yl Ub
  |tup y=>obtain⟨ya,Eb,rfl,yl,yr⟩:=h2;exact SeqAt.EqAt.int_tuple x xt yl Ub
 |str x=>
  obtain⟨xt,rfl⟩:=h1;cases e with
  |dct y=>cases h2
  |non=>cases h2;exact SeqAt.EqAt.str_none x xt
  |bl y=>cases h2;exact SeqAt.EqAt.str_bool x xt y
  |int y=>obtain⟨yt,rfl⟩:=h2;exact Zai x xt y yt
  |str y=>obtain⟨yt,rfl⟩:=h2;exact SeqAt.EqAt.str_str x xt y yt
  |lst y=>obtain⟨ya,Eb,rfl,yl,yr⟩:=h2;exact SeqAt.EqAt.str_list x xt yl Ub
  |tup y=>obtain⟨ya,Eb,rfl,yl,yr⟩:=h2;exact SeqAt.EqAt.str_tuple x xt yl Ub
 |lst x=>
  obtain⟨xa,sd,rfl,xl,xr⟩:=h1;cases e with
  |dct y=>cases h2
  |non=>cases h2;exact SeqAt.EqAt.list_none xl Ub
  |bl y=>cases h2;exact SeqAt.EqAt.list_bool y xl Ub
  |int y=>obtain⟨yt,rfl⟩:=h2;exact SeqAt.EqAt.list_int y yt xl Ub
  |str y=>obtain⟨yt,rfl⟩:=h2;exact SeqAt.EqAt.list_str y yt xl Ub
  |lst y=>obtain⟨ya,Eb,rfl,yl,yr⟩:=h2;exact XM x y hu xl yl xr yr ih
  |tup y=>obtain⟨ya,Eb,rfl,yl,yr⟩:=h2;exact SeqAt.EqAt.list_tuple xl yl Ub
 |tup x=>
  obtain⟨xa,sd,rfl,xl,xr⟩:=h1;cases e with
  |dct y=>cases h2
  |non=>cases h2;exact SeqAt.EqAt.tuple_none xl Ub
  |bl y=>cases h2;exact SeqAt.EqAt.tuple_bool y xl Ub
  |int y=>obtain⟨yt,rfl⟩:=h2;exact SeqAt.EqAt.tuple_int y yt xl Ub
  |str y=>obtain⟨yt,rfl⟩:=h2;exact SeqAt.EqAt.tuple_str y yt xl Ub
  |lst y=>obtain⟨ya,Eb,rfl,yl,yr⟩:=h2;exact SeqAt.EqAt.tuple_list xl yl Ub
  |tup y=>obtain⟨ya,Eb,rfl,yl,yr⟩:=h2;exact YM x y hu xl yl xr yr ih
theorem bN{A:Around}(d e:D)(u v:Value)(hu:A.units+d.dep<cLine)(h1:Hr s d u)(h2:Hr s e v)(ih:Ih s A.in1 d.kids):SeqAt.RcAt A s u v (Pb d e):=by
 have Ub:A.units<cLine:=by omega
 cases d with
 |dct x=>cases h1
 |non=>
  cases h1;cases e with
  |dct y=>cases h2
  |non=>cases h2;exact SeqAt.RcAt.none_none
  |bl y=>cases h2;exact SeqAt.RcAt.none_bool y
  |int y=>obtain⟨yt,rfl⟩:=h2;exact SeqAt.RcAt.none_int y yt
  |str y=>obtain⟨yt,rfl⟩:=h2;exact SeqAt.RcAt.none_str y yt
  |lst y=>obtain⟨ya,Eb,rfl,yl,yr⟩:=h2;exact SeqAt.RcAt.none_list yl Ub
  |tup y=>obtain⟨ya,Eb,rfl,yl,yr⟩:=h2;exact SeqAt.RcAt.none_tuple yl Ub
 |bl x=>
  cases h1;cases e with
  |dct y=>cases h2
  |non=>cases h2;exact SeqAt.RcAt.bool_none x
  |bl y=>cases h2;exact SeqAt.RcAt.bool_bool x y
  |int y=>obtain⟨yt,rfl⟩:=h2;exact SeqAt.RcAt.bool_int x y yt
  |str y=>obtain⟨yt,rfl⟩:=h2;exact SeqAt.RcAt.bool_str x y yt
  |lst y=>obtain⟨ya,Eb,rfl,yl,yr⟩:=h2;exact SeqAt.RcAt.bool_list x yl Ub
  |tup y=>obtain⟨ya,Eb,rfl,yl,yr⟩:=h2;exact SeqAt.RcAt.bool_tuple x yl Ub
 |int x=>
  obtain⟨xt,rfl⟩:=h1;cases e with
  |dct y=>cases h2
  |non=>cases h2;exact SeqAt.RcAt.int_none x xt
  |bl y=>cases h2;exact SeqAt.RcAt.int_bool x xt y
  |int y=>obtain⟨yt,rfl⟩:=h2;exact SeqAt.RcAt.int_int x xt y yt
  |str y=>obtain⟨yt,rfl⟩:=h2;exact SeqAt.RcAt.int_str x xt y yt
  |lst y=>obtain⟨ya,Eb,rfl,yl,yr⟩:=h2;exact SeqAt.RcAt.int_list x xt yl Ub
  |tup y=>obtain⟨ya,Eb,rfl,yl,yr⟩:=h2;exact SeqAt.RcAt.int_tuple x xt yl Ub
 |str x=>
  obtain⟨xt,rfl⟩:=h1;cases e with
  |dct y=>cases h2
  |non=>cases h2;exact SeqAt.RcAt.str_none x xt
  |bl y=>cases h2;exact SeqAt.RcAt.str_bool x xt y
  |int y=>obtain⟨yt,rfl⟩:=h2;exact SeqAt.RcAt.str_int x xt y yt
  |str y=>obtain⟨yt,rfl⟩:=h2;exact SeqAt.RcAt.str_str x xt y yt
  |lst y=>obtain⟨ya,Eb,rfl,yl,yr⟩:=h2;exact SeqAt.RcAt.str_list x xt yl Ub
  |tup y=>obtain⟨ya,Eb,rfl,yl,yr⟩:=h2;exact SeqAt.RcAt.str_tuple x xt yl Ub
 |lst x=>
  obtain⟨xa,sd,rfl,xl,xr⟩:=h1;cases e with
  |dct y=>cases h2
  |non=>cases h2;exact SeqAt.RcAt.list_none xl Ub
  |bl y=>cases h2;exact SeqAt.RcAt.list_bool y xl Ub
  |int y=>obtain⟨yt,rfl⟩:=h2;exact SeqAt.RcAt.list_int y yt xl Ub
  |str y=>obtain⟨yt,rfl⟩:=h2;exact SeqAt.RcAt.list_str y yt xl Ub
  |lst y=>obtain⟨ya,Eb,rfl,yl,yr⟩:=h2;exact wD x y hu xl yl xr yr ih
  |tup y=>obtain⟨ya,Eb,rfl,yl,yr⟩:=h2;exact SeqAt.RcAt.list_tuple xl yl Ub
 |tup x=>
  obtain⟨xa,sd,rfl,xl,xr⟩:=h1;cases e with
  |dct y=>cases h2
  |non=>cases h2;exact SeqAt.RcAt.tuple_none xl Ub
  |bl y=>cases h2;exact SeqAt.RcAt.tuple_bool y xl Ub
  |int y=>obtain⟨yt,rfl⟩:=h2;exact SeqAt.RcAt.tuple_int y yt xl Ub
  |str y=>obtain⟨yt,rfl⟩:=h2;exact SeqAt.RcAt.tuple_str y yt xl Ub
  |lst y=>obtain⟨ya,Eb,rfl,yl,yr⟩:=h2;exact SeqAt.RcAt.tuple_list xl yl Ub
  |tup y=>obtain⟨ya,Eb,rfl,yl,yr⟩:=h2;exact xD x y hu xl yl xr yr ih
theorem cN{A:Around}(d e:D)(u v:Value)(hu:A.units+d.dep<cLine)(h1:Hr s d u)(h2:Hr s e v)(ih:Ih s A.in1 d.kids):SeqAt.RcNeAt A s u v (!Pb d e):=by
 have Ub:A.units<cLine:=by omega
 cases d with
 |dct x=>cases h1
 |non=>
  cases h1;cases e with
  |dct y=>cases h2
  |non=>cases h2;exact SeqAt.RcNeAt.none_none
  |bl y=>cases h2;exact SeqAt.RcNeAt.none_bool y
  |int y=>obtain⟨yt,rfl⟩:=h2;exact SeqAt.RcNeAt.none_int y yt
  |str y=>obtain⟨yt,rfl⟩:=h2;exact SeqAt.RcNeAt.none_str y yt
  |lst y=>obtain⟨ya,Eb,rfl,yl,yr⟩:=h2;exact SeqAt.RcNeAt.none_list yl Ub
  |tup y=>obtain⟨ya,Eb,rfl,yl,yr⟩:=h2;exact SeqAt.RcNeAt.none_tuple yl Ub
 |bl x=>
  cases h1;cases e with
  |dct y=>cases h2
  |non=>cases h2;exact SeqAt.RcNeAt.bool_none x
  |bl y=>cases h2;exact SeqAt.RcNeAt.bool_bool x y
  |int y=>obtain⟨yt,rfl⟩:=h2;exact SeqAt.RcNeAt.bool_int x y yt
  |str y=>obtain⟨yt,rfl⟩:=h2;exact SeqAt.RcNeAt.bool_str x y yt
  |lst y=>obtain⟨ya,Eb,rfl,yl,yr⟩:=h2;exact SeqAt.RcNeAt.bool_list x yl Ub
  |tup y=>obtain⟨ya,Eb,rfl,yl,yr⟩:=h2;exact SeqAt.RcNeAt.bool_tuple x yl Ub
 |int x=>
  obtain⟨xt,rfl⟩:=h1;cases e with
  |dct y=>cases h2
  |non=>cases h2;exact SeqAt.RcNeAt.int_none x xt
  |bl y=>cases h2;exact SeqAt.RcNeAt.int_bool x xt y
  |int y=>obtain⟨yt,rfl⟩:=h2;exact SeqAt.RcNeAt.int_int x xt y yt
  |str y=>obtain⟨yt,rfl⟩:=h2;exact SeqAt.RcNeAt.int_str x xt y yt
  |lst y=>obtain⟨ya,Eb,rfl,yl,yr⟩:=h2;exact SeqAt.RcNeAt.int_list x xt yl Ub
  |tup y=>obtain⟨ya,Eb,rfl,yl,yr⟩:=h2;exact SeqAt.RcNeAt.int_tuple x xt yl Ub
 |str x=>
  obtain⟨xt,rfl⟩:=h1;cases e with
  |dct y=>cases h2
  |non=>cases h2;exact SeqAt.RcNeAt.str_none x xt
  |bl y=>cases h2;exact SeqAt.RcNeAt.str_bool x xt y
  |int y=>obtain⟨yt,rfl⟩:=h2;exact SeqAt.RcNeAt.str_int x xt y yt
  |str y=>obtain⟨yt,rfl⟩:=h2;exact SeqAt.RcNeAt.str_str x xt y yt
  |lst y=>obtain⟨ya,Eb,rfl,yl,yr⟩:=h2;exact SeqAt.RcNeAt.str_list x xt yl Ub
  |tup y=>obtain⟨ya,Eb,rfl,yl,yr⟩:=h2;exact SeqAt.RcNeAt.str_tuple x xt yl Ub
 |lst x=>
  obtain⟨xa,sd,rfl,xl,xr⟩:=h1;cases e with
  |dct y=>cases h2
  |non=>cases h2;exact SeqAt.RcNeAt.list_none xl Ub
  |bl y=>cases h2;exact SeqAt.RcNeAt.list_bool y xl Ub
  |int y=>obtain⟨yt,rfl⟩:=h2;exact SeqAt.RcNeAt.list_int y yt xl Ub
  |str y=>obtain⟨yt,rfl⟩:=h2;exact SeqAt.RcNeAt.list_str y yt xl Ub
  |lst y=>obtain⟨ya,Eb,rfl,yl,yr⟩:=h2;exact ZM x y hu xl yl xr yr ih
  |tup y=>obtain⟨ya,Eb,rfl,yl,yr⟩:=h2;exact SeqAt.RcNeAt.list_tuple xl yl Ub
 |tup x=>
  obtain⟨xa,sd,rfl,xl,xr⟩:=h1;cases e with
  |dct y=>cases h2
  |non=>cases h2;exact SeqAt.RcNeAt.tuple_none xl Ub
  |bl y=>cases h2;exact SeqAt.RcNeAt.tuple_bool y xl Ub
  |int y=>obtain⟨yt,rfl⟩:=h2;exact SeqAt.RcNeAt.tuple_int y yt xl Ub
  |str y=>obtain⟨yt,rfl⟩:=h2;exact SeqAt.RcNeAt.tuple_str y yt xl Ub
  |lst y=>obtain⟨ya,Eb,rfl,yl,yr⟩:=h2;exact SeqAt.RcNeAt.tuple_list xl yl Ub
  |tup y=>obtain⟨ya,Eb,rfl,yl,yr⟩:=h2;exact aN x y hu xl yl xr yr ih
mutual
theorem My:∀(d:D) {A:Around} (e:D) (u v:Value),A.units+d.dep<cLine->Hr s d u->Hr s e v->SeqAt.EqAt A s u v (Pb d e)
 |.lst xs,_,e,u,v,hu,h1,h2=>Dp (.lst xs) e u v hu h1 h2 (Ir xs)
 |.dct xs,_,e,u,v,hu,h1,h2=>by cases h1
 |.tup xs,_,e,u,v,hu,h1,h2=>Dp (.tup xs) e u v hu h1 h2 (Ir xs)
 |.non,_,e,u,v,hu,h1,h2=>Dp .non e u v hu h1 h2 (λj h=>by simp[D.kids]at h)
 |.bl b,_,e,u,v,hu,h1,h2=>Dp (.bl b) e u v hu h1 h2 (λj h=>by simp[D.kids]at h)
 |.int b,_,e,u,v,hu,h1,h2=>Dp (.int b) e u v hu h1 h2 (λj h=>by simp[D.kids]at h)
 |.str b,_,e,u,v,hu,h1,h2=>Dp (.str b) e u v hu h1 h2 (λj h=>by simp[D.kids]at h)
theorem Ir:∀(xs:W0) {A:Around},Ih s A xs
 |[],_=>λj h=>by simp at h
 |x::xs,_=>λj h=>match j,h with
  |0,h=>λe u v hu h1 h2=>My x e u v hu h1 h2
  |j+1,h=>λe u v hu h1 h2=>Ir xs j (by simpa using h) e u v hu h1 h2
end
theorem dN(d:D){A:Around}(e:D)(u v:Value)(hu:A.units+d.dep<cLine)(h1:Hr s d u)(h2:Hr s e v):SeqAt.RcAt A s u v (Pb d e):=bN d e u v hu h1 h2 (Ir _)
theorem eN(d:D){A:Around}(e:D)(u v:Value)(hu:A.units+d.dep<cLine)(h1:Hr s d u)(h2:Hr s e v):SeqAt.RcNeAt A s u v (!Pb d e):=cN d e u v hu h1 h2 (Ir _)
end
theorem Ep{K:Frag}{H:Hp}{i:Bool}{v:V}(h:Rep K H (.bl i) v):v=.bl i:=by simpa[Rep]using h
section
variable{X:Cx}{m m1 m2 m3:Md}{a b c:Expr}{f g h:Ex}{t u:Tx}{pos:Pos}{rest:T0}
theorem Qk(ha:PD X m a f)(he:∀whole,isTrue a X.env whole=(do let v <-whole;standAt a.pos;holding [v] (truthy v)):=by intro _;rfl):Ke X a (tB f):=
 PT.of (L2.cK ha.h he) λσ H Q Ca=>Cb Ca λBF BH F env L d S e q=>by
  unfold tB at e;split at e
  .rename_i k hk;cases e;exact⟨BF,BH,F,env,L,_,S,hk,λv F' H' x r=>⟨d,Ep r,q F' H' x⟩⟩
  .cases e
structure km(X:Cx)(r:R2)(f g:Ex)(t:Tx):Prop where
 ok:∀env k,t env=some k->∃x y,f env=some x/\g env=some y/\∀v w H' (Q:V->Hp->Prop),Rep X.K H' x v->Rep X.K H' y w->Q (.bl k) H'->r v w H' Q
theorem Yu{op:CmpOp}{r:R2}(ho:Qd X (compareOp op) r)(hc:km X r f g t)(hm:behindInMarks op b=false)(ha:PD X m1 a f)(hb:PD X m2 b g):PD X m (.Compare a [op] [b] pos) (eB t):=
 PD.mk<|PE.of (L2.iL ho ha.r.h hb.r.h hm) λσ H Q Ca=>Cb Ca λBF BH F env L d S e q=>by
  unfold eB at e;split at e
  .rename_i k hk;cases e;obtain⟨x,y,hx,hy,hr⟩:=hc.ok env k hk;exact two S hx hy λv w F' H' z r1 r2=>hr v w H' Q r1 r2 (q _ F' H' z (by simp[Rep]))
  .cases e
theorem xk{op:CmpOp}{r:R2}(ho:Qd X (compareOp op) r)(hc:km X r f g t)(hm:behindInMarks op b=false)(ha:PD X m1 a f)(hb:PD X m2 b g):Ke X (.Compare a [op] [b] pos) t:=
 PT.of (L2.kL ho ha.r.h hb.r.h hm) λσ H Q Ca=>Cb Ca λBF BH F env L k S e q=>by obtain⟨x,y,hx,hy,hr⟩:=hc.ok env k e;exact two S hx hy λv w F' H' z r1 r2=>hr v w H' _ r1 r2 ⟨k,rfl,q F' H' z⟩
theorem Jr{p:Int->Int->Bool}{G:Int->Int->V}(hG:∀i j,G i j=.bl (p i j)):km X (zk G) f g (Ob p f g):=⟨λenv k e=>by
 unfold Ob at e;split at e
 .rename_i i j h1 h2;cases e;exact⟨_,_,h1,h2,λv w H' Q r1 r2 q=>⟨i,j,pd r1,pd r2,by rw[hG];exact q⟩⟩
 .cases e⟩
theorem Fp(ha:PD X m1 a f)(hb:PD X m2 b g):Ke X (.Compare a [.Lt] [b] pos) (Ob ug f g):=xk jC (Jr λ_ _=>rfl) (wj _) ha hb
theorem lm(ha:PD X m1 a f)(hb:PD X m2 b g):Ke X (.Compare a [.Gt] [b] pos) (Ob Ld f g):=xk kC (Jr λ_ _=>rfl) (wj _) ha hb
theorem fN(ha:PD X m1 a f)(hb:PD X m2 b g):PD X m (.Compare a [.Lt] [b] pos) (eB (Ob ug f g)):=Yu jC (Jr λ_ _=>rfl) (wj _) ha hb
theorem Ny(ha:PD X m1 a f)(hb:PD X m2 b g):PD X m (.Compare a [.Gt] [b] pos) (eB (Ob Ld f g)):=Yu kC (Jr λ_ _=>rfl) (wj _) ha hb
theorem iN(ha:PD X m1 a f)(hb:PD X m2 b g):PD X m (.Compare a [.GtE] [b] pos) (eB (Ob gr f g)):=Yu L2.eL (Jr λ_ _=>rfl) (wj _) ha hb
noncomputable def Zu(K:Frag)(neg:Bool):R2:=λx y H Q=>∃dx dy,Rep K H dx x/\Rep K H dy y/\(dx.dep<=8/\dy.dep<=8)/\Q (.bl (if neg then !Pb dx dy else Pb dx dy)) H
theorem yD(hu:X.A.units+64<cLine):Qd X (compareOp .Eq) (Zu X.K false):=by intro pins s σ H x y v u Q I rx ry h;obtain⟨dx,dy,h1,h2,hd,q⟩:=h;exact dN dx dy v u (by omega) (Yh I _ _ _ (by omega) h1 rx) (Yh I _ _ _ (by omega) h2 ry) X.prog X.w X.xe _ ⟨.bl _,H,I,rfl,q⟩
theorem jN(hu:X.A.units+64<cLine):Qd X (compareOp .NotEq) (Zu X.K true):=by intro pins s σ H x y v u Q I rx ry h;obtain⟨dx,dy,h1,h2,hd,q⟩:=h;exact eN dx dy v u (by omega) (Yh I _ _ _ (by omega) h1 rx) (Yh I _ _ _ (by omega) h2 ry) X.prog X.w X.xe _ ⟨.bl _,H,I,rfl,q⟩
theorem zD:km X (Zu X.K false) f g (Ra f g):=⟨λenv k e=>by
 unfold Ra at e;split at e
 .rename_i x y h1 h2;split at e
  .rename_i hd;cases e;exact⟨x,y,h1,h2,λv w H' Q r1 r2 q=>⟨x,y,r1,r2,hd,q⟩⟩
  .cases e
 .cases e⟩
theorem kN:km X (Zu X.K true) f g (Cd f g):=⟨λenv k e=>by
 unfold Cd at e;split at e
 .rename_i x y h1 h2;split at e
  .rename_i hd;cases e;exact⟨x,y,h1,h2,λv w H' Q r1 r2 q=>⟨x,y,r1,r2,hd,q⟩⟩
  .cases e
 .cases e⟩
variable(hu:X.A.units+64<cLine)
include hu
theorem kc(ha:PD X m1 a f)(hb:PD X m2 b g):Ke X (.Compare a [.Eq] [b] pos) (Ra f g):=xk (yD hu) zD (wj _) ha hb
theorem Ci(ha:PD X m1 a f)(hb:PD X m2 b g):Ke X (.Compare a [.NotEq] [b] pos) (Cd f g):=xk (jN hu) kN (wj _) ha hb
theorem Kr(ha:PD X m1 a f)(hb:PD X m2 b g):PD X m (.Compare a [.Eq] [b] pos) (eB (Ra f g)):=Yu (yD hu) zD (wj _) ha hb
omit hu
open Classical in
noncomputable def Zh(s:Shared)(x:D)(u:Value):Bool:=if ∃d,Hr s d u/\Pb d x=true then true else false
theorem Lr{s:Shared}{x d:D}{u:Value}(h:Hr s d u):Zh s x u=Pb d x:=by
 unfold Zh;cases e:Pb d x with
 |true=>rw[Q1 ⟨d,h,e⟩]
 |false=>rw[B2];rintro⟨d',h',e'⟩;rw[Hr.func _ _ _ h' h,e]at e';cases e'
theorem Oy{s:Shared}{x:D}:∀{ys:W0} {us:P0},Qb s ys us->us.any (Zh s x)=ys.any λy=>Pb y x
 |[],us,h=>by simp only[Qb]at h;subst h;rfl
 |y::ys,us,h=>by simp only[Qb]at h;obtain⟨u,r,rfl,h1,h2⟩:=h;rw[o5,o5,Lr h1,Oy h2]
theorem Mr{A:Around}{s:Shared}{x:D}{v:Value}(hx:Hr s x v):∀{ys:W0} {us:P0},A.units+D.deps ys<cLine->Qb s ys us->∀u∈us,SeqAt.EqAt A s u v (Zh s x u)
 |[],us,_,h=>by simp only[Qb]at h;subst h;intro u hu;cases hu
 |y::ys,us,hd,h=>by
  simp only[Qb]at h;obtain⟨u,r,rfl,h1,h2⟩:=h;simp only[D.deps]at hd;intro u' Jq;rcases T1.mp Jq with rfl|Jq
  .rw[Lr h1];exact My y x _ v (by omega) h1 hx
  .exact Mr hx (by omega) h2 u' Jq
noncomputable def AD(K:Frag)(neg:Bool):R2:=λx y H Q=>∃dx ys,Rep K H dx x/\(Rep K H (.lst ys) y\/Rep K H (.tup ys) y)/\(D.deps ys<=8/\dx.dep<=8)/\Q (.bl (if neg then !inD dx ys else inD dx ys)) H
include hu
theorem lN:Qd X (compareOp .NotIn) (AD X.K true):=by
 intro pins s σ H x y v u Q I rx ry h;obtain⟨dx,ys,h1,h2,hd,q⟩:=h;have hx:=Yh I _ _ _ (by omega) h1 rx;have Kq:X.A.in1.units+D.deps ys<cLine:=by show X.A.units+1+_<_;omega
 rcases h2 with h2|h2
 .have hy:=Yh I _ _ _ (by simp only[D.dep];omega) h2 ry;simp only[Hr]at hy;obtain⟨p,its,rfl,hl,hr⟩:=hy;refine SeqAt.notIn_listAt (Zh s dx) hl (λw hw=>Mr hx Kq hr w (by simpa using hw)) ⟨.bl _,H,I,rfl,?_⟩;rw[show its.toArray.any (Zh s dx)=its.any (Zh s dx) by simp,Oy hr];exact q
 .have hy:=Yh I _ _ _ (by simp only[D.dep];omega) h2 ry;simp only[Hr]at hy;obtain⟨p,its,rfl,hl,hr⟩:=hy;refine SeqAt.notIn_tupleAt (Zh s dx) hl (λw hw=>Mr hx Kq hr w (by simpa using hw)) ⟨.bl _,H,I,rfl,?_⟩;rw[show its.toArray.any (Zh s dx)=its.any (Zh s dx) by simp,Oy hr];exact q
omit hu
theorem nN:km X (AD X.K true) f g (yi f g):=⟨λenv k e=>by
 unfold yi at e;split at e
 .rename_i k' e';cases e;unfold Fu at e';split at e'
  .rename_i x ys h1 h2;split at e'
   .rename_i hd;cases e';exact⟨x,_,h1,h2,λv w H' Q r1 r2 q=>⟨x,ys,r1,.inl r2,hd,q⟩⟩
   .cases e'
  .rename_i x ys h1 h2;split at e'
   .rename_i hd;cases e';exact⟨x,_,h1,h2,λv w H' Q r1 r2 q=>⟨x,ys,r1,.inr r2,hd,q⟩⟩
   .cases e'
  .cases e'
 .cases e⟩
include hu
theorem av(ha:PD X m1 a f)(hb:PD X m2 b g)(hm:behindInMarks .NotIn b=false:=by with_unfolding_all rfl):Ke X (.Compare a [.NotIn] [b] pos) (yi f g):=xk (lN hu) nN hm ha hb
omit hu
theorem BD{K:Frag}{H:Hp}{d:D}{v:V}(h:Rep K H d v):decide (v=.non)=d.Ul:=by
 cases d<;>simp only[Rep,D.Ul]at h |-
 .subst h;simp
 .subst h;simp
 .subst h;simp
 .subst h;simp
 .obtain⟨a,vs,rfl,_⟩:=h;simp
 .obtain⟨a,vs,rfl,_⟩:=h;simp
 .obtain⟨a,o,rfl,_⟩:=h;simp
theorem oN:km X (λx y H Q=>y=.non/\Q (.bl (decide (x=.non))) H) f (eC .non) (vk f):=⟨λenv k e=>by
 unfold vk at e;split at e
 .rename_i x h1;cases e;exact⟨x,.non,h1,rfl,λv w H' Q r1 r2 q=>⟨by simpa[Rep]using r2,by rw[BD r1];exact q⟩⟩
 .cases e⟩
theorem pN:km X (λx y H Q=>y=.non/\Q (.bl (!decide (x=.non))) H) f (eC .non) (uh f):=⟨λenv k e=>by
 unfold uh at e;split at e
 .rename_i x h1;cases e;exact⟨x,.non,h1,rfl,λv w H' Q r1 r2 q=>⟨by simpa[Rep]using r2,by rw[BD r1];exact q⟩⟩
 .cases e⟩
theorem CD{j p2}(ha:PD X m1 a f):Ke X (.Compare a [.Is] [.Constant .none j p2] pos) (vk f):=xk L2.fL oN (wj _) ha (Jy (m:=.r))
theorem Nr{j p2}(ha:PD X m1 a f):Ke X (.Compare a [.IsNot] [.Constant .none j p2] pos) (uh f):=xk L2.gL pN (wj _) ha (Jy (m:=.r))
noncomputable def Jn(X:Cx)(e:Expr)(t:Tx):Prop:=PW X e (Gn X.K t)
theorem Xi(h:Jn X a t):Ke X a t:=h _
theorem om(ha:Ke X a t):Jn X (.BoolOp .And [a] pos) t:=L2.eK ha
theorem Py(ha:Ke X a t):Jn X (.BoolOp .Or [a] pos) t:=L2.fK ha
theorem qm(ha:Ke X a t)(hb:Jn X (.BoolOp .And (b::rest) pos) u):Jn X (.BoolOp .And (a::b::rest) pos) (Kc t u):=PW.of (L2.gK ha hb) λσ H Q Ca=>Cb Ca λBF BH F env L k S e q=>by
 unfold Kc at e;split at e
 .rename_i h1;exact⟨BF,BH,F,env,L,true,S,h1,λF' H' z=>dn (⟨BF,BH,F',env,L,k,S.ext z,e,λF2 H2 z2=>q F2 H2 (z.trans z2)⟩)⟩
 .rename_i h1;cases e;exact⟨BF,BH,F,env,L,false,S,h1,λF' H' z=>Uo (q F' H' z)⟩
 .cases e
theorem Qy(ha:Ke X a t)(hb:Jn X (.BoolOp .Or (b::rest) pos) u):Jn X (.BoolOp .Or (a::b::rest) pos) (Nf t u):=PW.of (L2.iK ha hb) λσ H Q Ca=>Cb Ca λBF BH F env L k S e q=>by
 unfold Nf at e;split at e
 .rename_i h1;cases e;exact⟨BF,BH,F,env,L,true,S,h1,λF' H' z=>dn (q F' H' z)⟩
 .rename_i h1;exact⟨BF,BH,F,env,L,false,S,h1,λF' H' z=>Uo (⟨BF,BH,F',env,L,k,S.ext z,e,λF2 H2 z2=>q F2 H2 (z.trans z2)⟩)⟩
 .cases e
theorem Xm(ha:Ke X a t):Ke X (.UnaryOp .Not a pos) (Ye t):=PT.of (L2.Xm ha) λσ H Q Ca=>Cb Ca λBF BH F env L k S e q=>by
 unfold Ye at e;split at e
 .rename_i k' h1;cases e;exact⟨BF,BH,F,env,L,k',S,h1,λF' H' z=>q F' H' z⟩
 .cases e
theorem DD(ha:PD X m a (eB t)):PD X m (.BoolOp .And [a] pos) (eB t):=PD.mk<|L2.kK ha.h
theorem qN{env:Env}{d:D}(h:eB t env=some d):∃k,t env=some k/\d=.bl k:=by
 unfold eB at h;split at h
 .rename_i k hk;cases h;exact⟨k,hk,rfl⟩
 .cases h
theorem Ry{env:Env}{k:Bool}(h:t env=some k):eB t env=some (.bl k):=by unfold eB;rw[h]
theorem ED(ha:PD X m1 a (eB t))(hb:PD X m2 (.BoolOp .And (b::rest) pos) (eB u)):PD X m (.BoolOp .And (a::b::rest) pos) (eB (Kc t u)):=PD.mk<|PE.of (L2.lK ha.h hb.h) λσ H Q Ca=>Cb Ca λBF BH F env L d S e q=>by
 obtain⟨k,hk,rfl⟩:=qN e;unfold Kc at hk;split at hk
 .rename_i h1;exact⟨BF,BH,F,env,L,_,S,Ry h1,λv F' H' z r=>⟨true,Ep r,dn (⟨BF,BH,F',env,L,_,S.ext z,Ry hk,λw F2 H2 z2 r2=>q w F2 H2 (z.trans z2) (r2.Vu rfl)⟩)⟩⟩
 .rename_i h1;cases hk;exact⟨BF,BH,F,env,L,_,S,Ry h1,λv F' H' z r=>⟨false,Ep r,Uo (q _ F' H' z (by simp[Rep]))⟩⟩
 .cases hk
end
structure Bt(mg:O0):Prop where
 len:mg "len"=none
 range:mg "range"=none
 list:mg "list"=none
 all:mg "all"=none
 isinstance:mg "isinstance"=none
 max:mg "max"=none
 int:mg "int"=none
 bool:mg "bool"=none
 str:mg "str"=none
 tuple:mg "tuple"=none
 sorted:mg "sorted"=none
 set:mg "set"=none
 any:mg "any"=none
 enumerate:mg "enumerate"=none
 dict:mg "dict"=none
theorem Pr:lim<=sizeLine:=by rw[M3];decide
theorem FD:lim<sizeLine:=by rw[M3];decide
section
variable{X:Cx}{m m1 m2 m3:Md}{a b c e:Expr}{es:T0}{f g h:Ex}{fs:List Ex}{t u:Tx}{pos:Pos}
noncomputable def sN(K:Frag)(m:Md)(fs:List Ex):TA:=λσ H Q=>∃BF BH F env L ds,lb K BF BH F H σ env L/\evs fs env=some ds/\
 ∀vs F' H',Ext F H F' H'->Ba K (ye BH F' H' m) ds vs->Q vs H'
structure Cg(X:Cx)(m:Md)(es:T0)(fs:List Ex):Prop where
 h:PA X es (sN X.K m fs)
theorem PA.of{X:Cx}{e:T0}{t t':TA}(h:PA X e t')(i:∀σ H Q,t σ H Q->t' σ H Q):PA X e t:=λpos pins s σ H Q I q=>h pos pins s σ H Q I (i σ H Q q)
theorem Ea:Cg X m [] []:=Cg.mk<|PA.of Sd λσ H Q Ca=>Cb Ca λBF BH F env L ds S e q=>by cases e;exact q [] F H (.refl S.fh) Ba.nil
theorem Ja(ha:PD X m e f)(hr:Cg X m es fs)(hs:Zb e=true:=by rfl):Cg X m (e::es) (f::fs):=
 Cg.mk<|PA.of (jd ha.h hr.h (Pc hs)) λσ H Q Ca=>Cb Ca λBF BH F env L ds S e q=>by
  simp only[evs]at e;split at e
  .rename_i d ds' h1 h2;cases e;exact⟨BF,BH,F,env,L,d,S,h1,λv F1 H1 x1 r1=>⟨BF,BH,F1,env,L,ds',S.ext x1,h2,λvs F2 H2 x2 r2=>q (v::vs) F2 H2 (x1.trans x2) (Ba.cons (Rep.mono (Jj x2 m) _ _ r1) r2)⟩⟩
  .cases e
theorem Sy{env:Env}:∀{fs:List Ex} {ds:W0},evs fs env=some ds->ds.length=fs.length
 |[],ds,h=>by cases h;rfl
 |f::fs,ds,h=>by
  simp only[evs]at h;split at h
  .rename_i d ds' h1 h2;cases h;simp[Sy h2]
  .cases h
theorem rm{K:Frag}{BF BH F F1 H H1:Hp}{σ:L2.St}{env:Env}{L:Nat->R0}(S:lb K BF BH F H σ env L)(x:Ext F H F1 H1){p:Addr}(hp:H1 p=none)(o:HO):Ext F H F1 (upd H1 p o)/\H p=none/\F1 p=none/\Same (ye BH F1 H1 m) (ye BH F1 (upd H1 p o) m):=
 ⟨x.trans (Ext.own x.fh hp),x.hh.free hp,x.fh.free hp,Jj (Ext.own x.fh hp) m⟩
theorem Eh(ha:Cg X m es fs)(hl:fs.length<=1000:=by decide):ze X m (.List es pos) (Xa fs):=PE.of (mC ha.h) λσ H Q Ca=>Cb Ca λBF BH F env L ds S e q=>by
 unfold Xa at e;split at e
 .rename_i ds' h1;cases e;refine⟨BF,BH,F,env,L,ds,S,h1,λvs F' H' x r=>⟨?_,λp hp=>?_⟩⟩
  .rw[<-r.length,Sy h1];exact E3 hl (by rw[M3];decide)
  .obtain⟨y,h0,h2,s⟩:=rm (m:=m) S x hp (HO.lst vs);exact q p vs F' _ y h0 Lb h2 (Ba.mono s _ _ r)
 .cases e
theorem uN{env:Env}{d:D}(h:Xa fs env=some d):∃ds,d=.lst ds:=by
 unfold Xa at h;split at h
 .cases h;exact⟨_,rfl⟩
 .cases h
theorem bc(ha:Cg X m es fs)(hl:fs.length<=1000:=by decide):PD X m (.List es pos) (Xa fs):=(Eh ha hl).d λenv d h=>uN h
theorem Mj{x1}(ha:Cg X m es fs)(hl:fs.length<=1000:=by decide):PD X m (.Tuple es x1 pos) (vf fs):=PD.mk<|PE.of (L2.rL ha.h) λσ H Q Ca=>Cb Ca λBF BH F env L d S e q=>by
 unfold vf at e;split at e
 .rename_i ds' h1;cases e;refine⟨BF,BH,F,env,L,ds',S,h1,λvs F' H' x r=>⟨?_,λp hp=>?_⟩⟩
  .rw[<-r.length,Sy h1];exact E3 hl (by rw[M3];decide)
  .have y:=Ext.laid (o:=HO.tup vs) x.fh hp;refine q (.ref p) _ _ (x.trans y) ?_;simp only[Rep];refine⟨p,vs,rfl,.inl (.inl ?_),Ba.mono (Jj y m) _ _ r⟩;cases m with
   |r=>exact Lb
   |k=>exact Lb
   |f=>show cut _ _ p=_;rw[Mk (S.s0.free (x.hh.free hp))];exact Lb
 .cases e
theorem vN{prog:Program}{w:World}{A:Around}{E:N0}{s:Shared}{l b:Addr}{its its2:Array Value}{Q:N0}(hl:s.heap.IsList l its)(hb:s.heap.IsList b its2)(h:Q (.ref s.heap.objs.size) { s with heap:=s.heap.push { cls:=.type "list",data:=.seq (its++its2) } })(hsz:its.size+its2.size<=sizeLine):wpAny (model prog w) A (binaryOp .Add (.ref l) (.ref b)) Q E s:=by obtain⟨⟨cls,dd,data,sl⟩,ho,hc,n,hd⟩:=id hl;obtain⟨⟨cls2,dd2,data2,sl2⟩,fJ,Qh,n2,hd2⟩:=id hb;simp only at hc hd Qh hd2;subst hc hd Qh hd2;exact concat_meets ⟨_,ho,rfl⟩ ⟨_,fJ,rfl⟩ noFill_list_add seq_list_add PySem.F.slot_list_add PySem.F.entry_list_add (PySem.F.args_list_add_2 _ _) (list_addW l b its its2 n n2 dd dd2 sl sl2 hsz) ⟨ho,fJ,h⟩
theorem wN:Qd X (binaryOp .Add) (λx y H Q=>∃l b xs zs,x=.ref l/\y=.ref b/\Cc X.K H l xs/\Cc X.K H b zs/\xs.length+zs.length<=sizeLine/\∀p,H p=none->Q (.ref p) (upd H p (.lst (xs++zs)))):=by
 intro pins s σ H x y v u Q I rx ry h;obtain⟨l,b,xs,zs,rfl,rfl,hH,hB,hz,q⟩:=h;cases rx;cases ry;obtain⟨its,r,p,z⟩:=I.list hH;obtain⟨its2,r2,p2,z2⟩:=I.list hB;have hl:=r.length;have Qm:=r2.length;have ea:its.toArray++its2.toArray=(its++its2).toArray:=by simp
 refine vN p.isList p2.isList ?_ (by rw[R1,R1];omega);rw[ea];exact⟨.ref _,_,I.KC (t':=s.toks) (r.append r2) (by rw[U2];omega),rfl,q _ I.fresh⟩
theorem Lc(ha:PD X m a f)(hb:PD X m b g):PD X m (.BinOp a .Add b pos) (ib f g):=PD.mk<|PE.of (Xx (Qd.or L2.UK wN) ha.h hb.h) λσ H Q Ca=>Cb Ca λBF BH F env L d S e q=>by
 unfold ib De at e;split at e
 .rename_i x y h1 h2;unfold jn at e;split at e
  .cases e;exact two S h1 h2 λv w F' H' z r1 r2=>.inl ⟨_,_,pd r1,pd r2,q _ F' H' z (by simp[Rep])⟩
  .split at e
   .rename_i xs ys hl;cases e;refine two S h1 h2 λv w F' H' z r1 r2=>.inr ?_;simp only[Rep]at r1 r2;obtain⟨p1,vs,rfl,s1,t1⟩:=r1;obtain⟨p2,ws,rfl,s2,t2⟩:=r2;have hh:=Bp (BH:=BH) z.fh m;refine⟨p1,p2,vs,ws,rfl,rfl,hh.seq s1,hh.seq s2,?_,λp hp=>?_⟩
    .rw[<-t1.length,<-t2.length];exact E3 hl Pr
    .have y:=Ext.laid (o:=HO.lst (vs++ws)) z.fh hp;refine q (.ref p) _ _ (z.trans y) ?_;simp only[Rep];refine⟨p,_,rfl,.inl (.inl ?_),Ba.mono (Jj y m) _ _ (t1.append t2)⟩;cases m with
     |r=>exact Lb
     |k=>exact Lb
     |f=>show cut _ _ p=_;rw[Mk (S.s0.free (z.hh.free hp))];exact Lb
   .cases e
  .cases e
 .cases e
theorem GD{K:Frag}{H:Hp}{ds:W0}{vs:U0}{i:Int}{d:D}(r:Ba K H ds vs)(h:Fk ds i=some d):∃v,vi vs i=some v/\Rep K H d v:=by
 unfold Fk at h;unfold vi;rw[<-r.length];show ∃v,((we ds.length i).bind λj=>vs[j]?)=some v/\_;cases e:we ds.length i with
 |none=>rw[e]at h;cases h
 |some j=>rw[e]at h;obtain⟨v,h1,h2⟩:=r.get (i:=j) h;exact⟨v,h1,h2⟩
theorem wb(ha:PD X m a f)(hb:PD X m1 b g)(hs:Yq b:=by exact λ_ _=>rfl):PD X m (.Subscript a b pos) (Ka f g):=PD.mk<|PE.of (Au L2.QL ha.h hb.h hs) λσ H Q Ca=>Cb Ca λBF BH F env L d S e q=>by
 unfold Ka De at e;split at e
 .rename_i x y h1 h2;refine two S h1 h2 λv w F' H' z r1 r2=>?_;have hh:=Bp (BH:=BH) z.fh m;unfold Vo at e;split at e
  .simp only[Rep]at r1;obtain⟨p,vs,rfl,s1,t1⟩:=r1;obtain⟨v',k1,k2⟩:=GD t1 e;exact .inl ⟨p,vs,_,v',rfl,pd r2,hh.seq s1,k1,q _ F' H' z k2⟩
  .simp only[Rep]at r1;obtain⟨p,vs,rfl,s1,t1⟩:=r1;obtain⟨v',k1,k2⟩:=GD t1 e;exact .inr (.inl ⟨p,vs,_,v',rfl,pd r2,Ij hh s1,k1,q _ F' H' z k2⟩)
  .cases e
 .cases e
noncomputable def xN(K:Frag)(o:Env->Option (Option Int)):L2.TO:=λσ H Q=>∃BF BH F env L i,lb K BF BH F H σ env L/\o env=some i/\∀F' H',Ext F H F' H'->Q i H'
noncomputable def bv(X:Cx)(e:Option Expr)(o:Env->Option (Option Int)):Prop:=L2.PO X e (xN X.K o)
theorem Qr:bv X none vg:=λpins s σ H Q I ⟨BF,BH,F,env,L,i,S,e,q⟩=>L2.GL pins s σ H Q I (by cases e;exact q F H (.refl S.fh))
theorem Rr(ha:PD X m a f):bv X (some a) (Wf f):=λpins s σ H Q I ⟨BF,BH,F,env,L,i,S,e,q⟩=>L2.HL ha.h pins s σ H Q I (by
 unfold Wf at e;split at e
 .rename_i k hk;cases e;exact⟨BF,BH,F,env,L,_,S,hk,λv F' H' x r=>⟨k,pd r,q F' H' x⟩⟩
 .cases e)
theorem HD{K:Frag}{H:Hp}{ds:W0}{vs:U0}(r:Ba K H ds vs)(lo hi:Option Int):Ba K H (cutD ds lo hi) (zj vs lo hi):=by unfold cutD zj;rw[<-r.length];exact(r.drop _).take _
theorem Sr{lo hi:Option Expr}{p2:Pos}{o1 o2:Env->Option (Option Int)}(ha:PD X m a f)(hl:bv X lo o1)(hh:bv X hi o2):PD X m (.Subscript a (.Slice lo hi none p2) pos) (Xf f o1 o2):=
 PD.mk<|PE.of (L2.JL (L2.Ql.or L2.ZL L2.LL) ha.h hl hh) λσ H Q Ca=>Cb Ca λBF BH F env L d S e q=>by
  unfold Xf at e;split at e
  .rename_i x l u h1 h2 h3;refine⟨BF,BH,F,env,L,x,S,h1,λv F1 H1 z1 r1=>⟨BF,BH,F1,env,L,l,S.ext z1,h2,λF2 H2 z2=>⟨BF,BH,F2,env,L,u,(S.ext z1).ext z2,h3,λF3 H3 z3=>?_⟩⟩⟩;have z:=z1.trans (z2.trans z3);have r3:=Rep.mono (Jj (BH:=BH) (z2.trans z3) m) _ _ r1;have hm:=Bp (BH:=BH) z.fh m;unfold Wo at e;split at e
   .cases e;simp only[Rep]at r3;obtain⟨p,vs,rfl,s1,t1⟩:=r3;refine .inl ⟨p,vs,rfl,hm.seq s1,λp2 hp=>?_⟩;have y:=Ext.laid (o:=HO.lst (zj vs l u)) z.fh hp;refine q (.ref p2) _ _ (z.trans y) ?_;simp only[Rep];refine⟨p2,_,rfl,.inl (.inl ?_),Ba.mono (Jj y m) _ _ (HD t1 l u)⟩;cases m with
    |r=>exact Lb
    |k=>exact Lb
    |f=>show cut _ _ p2=_;rw[Mk (S.s0.free (z.hh.free hp))];exact Lb
   .rename_i xs;split at e
    .cases e
    .rename_i hw;cases e;simp only[Rep]at r3;obtain⟨p,vs,rfl,s1,t1⟩:=r3;refine .inr ⟨p,vs,rfl,Ij hm s1,?_,λp2 hp=>?_⟩
     .rw[<-t1.length];exact hw
     .have y:=Ext.laid (o:=HO.tup (zj vs l u)) z.fh hp;refine q (.ref p2) _ _ (z.trans y) ?_;simp only[Rep];refine⟨p2,_,rfl,.inl (.inl ?_),Ba.mono (Jj y m) _ _ (HD t1 l u)⟩;cases m with
      |r=>exact Lb
      |k=>exact Lb
      |f=>show cut _ _ p2=_;rw[Mk (S.s0.free (z.hh.free hp))];exact Lb
   .cases e
  .cases e
theorem dv{x:Str}{id:String}{p:Pos}{r:U0->Hp->VK->Prop}{φ:D->Option D}(hc:Ze X (.builtin id) r)(hm:X.mg x=none)(hv:bootBuiltins x=some (.builtin id))(hφ:∀d y H' v (Q:V->Hp->Prop),φ d=some y->Rep X.K H' d v->(∀w,Rep X.K H' y w->Q w H')->r [v] H' Q/\xh y=true)(ha:PD X m1 a f)(hg:X.env.kindOf x=some .globalImplicit:=by kernel_rfl)(hn:x≠"__name__":=by decide)(Vd:(x==("__debug__":Str))=false:=by kernel_rfl)(hs:Zb a=true:=by rfl):PD X m (.Call (.Name x p) [a] [] pos) (za φ f):=
 PD.mk<|PE.of (Xq hc hg hm hv (jd ha.r.h Sd (Gd hs)) hn Vd (Pc hs) rfl) λσ H Q Ca=>Cb Ca λBF BH F env L d S e q=>by
  unfold za at e;split at e
  .rename_i y h1;refine⟨BF,BH,F,env,L,y,S,h1,λv F' H' z r1=>?_⟩;have sc:=(hφ y d H' v (λ_ _=>True) e r1 (λ_ _=>trivial)).2;exact(hφ y d H' v Q e r1 λw rw=>q w F' H' z (rw.Vu sc)).1
  .cases e
theorem yN{p:Pos}(T:Bt X.mg)(ha:PD X m1 a f)(hg:X.env.kindOf "len"=some .globalImplicit:=by kernel_rfl)(hs:Zb a=true:=by rfl):PD X m (.Call (.Name "len" p) [a] [] pos) (za Ta f):=
 dv L2.aM T.len PySem.boot_len (λd y H' v Q e r k=>by
  unfold Ta at e;split at e
  .cases e;simp only[Rep]at r;obtain⟨p,vs,rfl,s1,t1⟩:=r;exact⟨⟨p,vs,rfl,.inl s1,k _ (by simp[Rep,t1.length])⟩,rfl⟩
  .cases e;simp only[Rep]at r;obtain⟨p,vs,rfl,s1,t1⟩:=r;exact⟨⟨p,vs,rfl,.inr s1,k _ (by simp[Rep,t1.length])⟩,rfl⟩
  .cases e) ha hg (by decide) (by decide) hs
theorem zN(hc:X.calm=true):Ze X (.builtin "all") (λxs H Q=>∃(p:Addr) (bs:List Bool),xs=[.ref p]/\Cc X.K H p (bs.map V.bl)/\Q (.bl (bs.all λb=>b)) H):=by
 intro pins s σ H xs us Q I r h;obtain⟨p,bs,rfl,hq,q⟩:=h;obtain⟨u,rfl,ru⟩:=r.one;cases ru;obtain⟨its,rv,pl,hz⟩:=I.list hq;have Wa:p<s.heap.objs.size:=by obtain⟨o,e,_⟩:=pl.isList;exact N1 e
 refine call_all_walk (b7 pl.isList ?_);have hlen:its.length=bs.length:=by have:=rv.length;rw[Y0]at this;exact this.symm
 have ID:∀(j:Nat) (v:Value),its[j]?=some v->v=.bool (bs.getD j true):=λj v hj=>by
  have Vt:j<bs.length:=by rw[<-hlen];exact(P1.mp hj).1
  obtain⟨w,h1,h2⟩:=rv.get (i:=j) (x:=V.bl bs[j]) (by simp[Vt]);rw[hj]at h1;cases h1;have:v=.bool bs[j]:=h2;rw[this];simp[List.getD,Vt]
 refine⟨s.heap.objs.size,_,_,_,_,_,λj=>bs.getD j true,rfl,Zag (show(X.A.in1).handled=none from I.ok.hd hc) s.heap.objs.size p (J2 Wa) its.toArray,⟨⟨_,Z1 _ rfl,rfl,rfl⟩,pl.isList.push _⟩,?_,λh' tk hk=>?_⟩
 .intro i v s' Q' E' hP Ni;have e:=ID i v (by simpa using hP);subst e;exact G5 Ni
 .have e:(List.range its.toArray.size).all (λj=>bs.getD j true)=bs.all λb=>b:=by
   rw[R1,hlen];clear ID hlen rv hq q hz;induction bs with
   |nil=>rfl
   |cons b bs ih=>rw[W4,P7,O6,R7];rw[O6];congr 1
  rw[e];refine⟨.bl _,H,I.kept (h':=h') (t':=tk) λb o eo=>?_,rfl,q⟩;exact hk b o (by simp;exact J2 (N1 eo)) (B1 _ eo)
theorem JD{K:Frag}{H:Hp}:∀{xs:W0} {vs:U0} {b:Bool},allB xs=some b->Ba K H xs vs->∃bs:List Bool,vs=bs.map V.bl/\(bs.all λb=>b)=b
 |[],vs,b,h,r=>by simp only[Ba]at r;subst r;cases h;exact⟨[],rfl,rfl⟩
 |.bl c::xs,vs,b,h,r=>by
  simp only[Ba]at r;obtain⟨v,t,rfl,h1,h2⟩:=r;simp only[allB]at h;cases e:allB xs with
  |none=>rw[e]at h;cases h
  |some d=>rw[e]at h;cases h;obtain⟨bs,rfl,rfl⟩:=JD e h2;obtain rfl:=Ep h1;exact⟨c::bs,rfl,rfl⟩
 |.non::_,_,_,h,_=>by simp[allB]at h
 |.int _::_,_,_,h,_=>by simp[allB]at h
 |.str _::_,_,_,h,_=>by simp[allB]at h
 |.lst _::_,_,_,h,_=>by simp[allB]at h
 |.tup _::_,_,_,h,_=>by simp[allB]at h
theorem Ur{p:Pos}(T:Bt X.mg)(ha:PD X m1 a f)(hc:X.calm=true:=by rfl)(hg:X.env.kindOf "all"=some .globalImplicit:=by kernel_rfl)(hs:Zb a=true:=by rfl):PD X m (.Call (.Name "all" p) [a] [] pos) (za Pf f):=
 dv (zN hc) T.all boot_all (λd y H' v Q e r k=>by
  unfold Pf at e;split at e
  .split at e
   .rename_i b hb;cases e;simp only[Rep]at r;obtain⟨p,vs,rfl,s1,t1⟩:=r;obtain⟨bs,rfl,rfl⟩:=JD hb t1;exact⟨⟨p,bs,rfl,s1,k _ (by simp[Rep])⟩,rfl⟩
   .cases e
  .cases e) ha hg (by decide) (by decide) hs
end
section
variable{X:Cx}{m m1 m2 m3:Md}{a b c e:Expr}{es:T0}{f g h:Ex}{fs:List Ex}{t u:Tx}{pos:Pos}
theorem AN{p:Pos}(T:Bt X.mg)(ha:PD X m1 a f)(hb:PD X m2 b g)(hc:X.calm=true:=by rfl)(hg:X.env.kindOf "max"=some .globalImplicit:=by kernel_rfl)(hs:Zb a=true:=by rfl)(Hl:Zb b=true:=by rfl):PD X m (.Call (.Name "max" p) [a,b] [] pos) (Ma br f g):=
 PD.mk<|PE.of (Xq (L2.lL hc) hg T.max boot_max (jd ha.h (jd hb.h Sd (Gd Hl)) (Pc hs)) (by decide) (by decide) (Pc hs) (Pk (Lj Hl))) λσ H Q Ca=>Cb Ca λBF BH F env L d S e q=>by
  unfold Ma at e;split at e
  .rename_i i j h1 h2;cases e;refine⟨BF,BH,F,env,L,_,S,h1,λv F1 H1 x1 r1=>⟨BF,BH,F1,env,L,_,S.ext x1,h2,λw F2 H2 x2 r2=>⟨i,j,?_,q _ F2 H2 (x1.trans x2) (by simp[Rep])⟩⟩⟩;rw[pd r1,pd r2]
  .cases e
theorem jv{p:Pos}(T:Bt X.mg)(ha:PD X m a f)(hg:X.env.kindOf "list"=some .globalImplicit:=by kernel_rfl)(hs:Zb a=true:=by rfl):ze X m (.Call (.Name "list" p) [a] [] pos) (za Je f):=
 PE.of (To IC hg T.list (by decide +kernel) (jd ha.h Sd (Gd hs)) (by decide) (by decide) (Pc hs) rfl) λσ H Q Ca=>Cb Ca λBF BH F env L ds S e q=>by
  unfold za at e;split at e
  .rename_i y h1;refine⟨BF,BH,F,env,L,y,S,h1,λv F' H' z r1=>?_⟩;have hm:=Bp (BH:=BH) z.fh m;unfold Je at e;split at e
   .cases e;simp only[Rep]at r1;obtain⟨p,vs,rfl,s1,t1⟩:=r1;refine⟨p,vs,rfl,.inl (hm.seq s1),λl hl=>?_⟩;obtain⟨y,h0,h2,s⟩:=rm (m:=m) S z hl (HO.lst vs);exact q l vs F' _ y h0 Lb h2 (Ba.mono s _ _ t1)
   .cases e;simp only[Rep]at r1;obtain⟨p,vs,rfl,s1,t1⟩:=r1;refine⟨p,vs,rfl,.inr (Ij hm s1),λl hl=>?_⟩;obtain⟨y,h0,h2,s⟩:=rm (m:=m) S z hl (HO.lst vs);exact q l vs F' _ y h0 Lb h2 (Ba.mono s _ _ t1)
   .cases e
  .cases e
theorem lv{env:Env}{d:D}(h:za Je f env=some d):∃ds,d=.lst ds:=by
 unfold za at h;split at h
 .unfold Je at h;split at h
  .cases h;exact⟨_,rfl⟩
  .cases h;exact⟨_,rfl⟩
  .cases h
 .cases h
theorem BN{p:Pos}(T:Bt X.mg)(ha:PD X m a f)(hg:X.env.kindOf "list"=some .globalImplicit:=by kernel_rfl)(hs:Zb a=true:=by rfl):PD X m (.Call (.Name "list" p) [a] [] pos) (za Je f):=
 (jv T ha hg hs).d λenv d h=>lv h
theorem KD{x:D}:∀{ys:W0} {j:Nat},on x ys=some j->j<ys.length/\(∀h:j<ys.length,Pb ys[j] x=true)/\∀i (h:i<ys.length),i<j->Pb ys[i] x=false
 |[],j,h=>by simp[on]at h
 |y::ys,j,h=>by
  simp only[on]at h;split at h
  .rename_i hy;cases h;exact⟨by simp,λ_=>hy,λi _ hi=>by omega⟩
  .rename_i hy;cases e:on x ys with
   |none=>rw[e]at h;cases h
   |some k=>
    rw[e]at h;cases h;obtain⟨h1,h2,h3⟩:=KD e;refine⟨by simpa using h1,λ_=>by simpa using h2 h1,λi hi QZ=>?_⟩;cases i with
    |zero=>simpa using hy
    |succ i=>simpa using h3 i (by simpa using hi) (by omega)
theorem DN(hu:X.A.units+64<cLine):Rl X "list.index" (λx xs H Q=>∃(dx:D) (y:V) (ys:W0) (j:Nat),xs=[y]/\Rep X.K H (.lst ys) x/\Rep X.K H dx y/\(D.deps ys<=8/\dx.dep<=8)/\on dx ys=some j/\Q (.int j) H):=by
 intro pins s σ H x xs v us Q I rx rv h;obtain⟨dx,y,ys,j,rfl,h1,h2,hd,hj,q⟩:=h;obtain⟨u,rfl,ru⟩:=rv.one;have hx:=Yh I _ _ _ (by omega) h2 ru;have hz:ys.length<=sizeLine:=by simp only[Rep]at h1;obtain⟨p,vs,rfl,hs,t⟩:=h1;obtain⟨_,_,_,z⟩:=I.list hs;rw[t.length];exact z
 have hy:=Yh I _ _ _ (by simp only[D.dep];omega) h1 rx;simp only[Hr]at hy;obtain⟨p,its,rfl,hl,hr⟩:=hy;have Kq:X.A.in1.units+D.deps ys<cLine:=by show X.A.units+1+_<_;omega
 have hlen:=hr.length;obtain⟨j1,j2,j3⟩:=KD hj;have js:(j:Int)<2^63-1:=by rw[M3]at hz;omega
 obtain⟨⟨cls,dd,data,sl⟩,ho,hc,n,Wt⟩:=id hl;simp only at hc Wt;subst hc Wt;refine N7 j9 ⟨_,ho,rfl⟩ PySem.F.entry_list_index (PySem.F.args_list_index_2 _ _)
  (SeqAt.list_indexAt p its.toArray n dd sl u (Zh s dx) j (by simp;omega) js ?_ ?_) ⟨ho,λy hy=>Mr hx Kq hr y (by simpa using hy),?_⟩
 all_goals first
  |exact⟨.int j,H,I.tok _,⟨_,rfl⟩,q⟩
  |skip
 .have e:=hr.get j1 (by omega);have:=Lr (x:=dx) e;simp only[Z7];rw[this];exact j2 j1
 .intro i hi Ge;have i1:i<ys.length:=by rw[hlen];simpa using hi
  have e:=hr.get i1 (by omega);have:=Lr (x:=dx) e;simp only[Z7];rw[this];exact j3 i i1 Ge
end
noncomputable def putL(L:Nat->R0)(i:Nat)(l:R0):Nat->R0:=λj=>if j=i then l else L j
theorem Yi{L:Nat->R0}{i:Nat}{l:R0}:putL L i l i=l:=by unfold putL;rw[Q1 rfl]
theorem ai{L:Nat->R0}{i j:Nat}{l:R0}(h:j≠i):putL L i l j=L j:=by unfold putL;rw[B2 h]
section
variable{K:Frag}{BF BH F H:Hp}{σ:L2.St}{env:Env}{L:Nat->R0}
theorem lb.Gp(S:lb K BF BH F H σ env L):Ext BF BH F H:=⟨S.s0,S.f0,S.fd,S.fh⟩
theorem lb.set(S:lb K BF BH F H σ env L)(i:Nat){s:Sl}{v:V}{l:R0}(hs:Nk K BH F H s (some v) l)(ho:∀a∈l,F a=none/\BH a=none/\H a≠none)(hd:∀a∈l,∀j,j≠i->a∉L j):lb K BF BH F H (σ.set i (some v)) (env.set i s) (putL L i l) where
 s0:=S.s0
 f0:=S.f0
 fh:=S.fh
 fd:=S.fd
 ow:=λj a h=>by
  by_cases hj:j=i
  .subst hj;rw[Yi]at h;exact ho a h
  .rw[ai hj]at h;exact S.ow j a h
 dj:=λj k a h1 h2=>by
  by_cases hj:j=i
  .subst hj;rw[Yi]at h1;by_cases hk:k=j
   .exact hk.symm
   .rw[ai hk]at h2;exact absurd h2 (hd a h1 k hk)
  .rw[ai hj]at h1;by_cases hk:k=i
   .subst hk;rw[Yi]at h2;exact absurd h1 (hd a h2 j hj)
   .rw[ai hk]at h2;exact S.dj j k a h1 h2
 len:=by rw[P2,P2];exact S.len
 sl:=λj s' h=>by
  by_cases hj:i=j
  .subst hj;have Wa:i<env.length:=by have:=(P1.mp h).1;rwa [P2]at this
   rw[W2 Wa]at h;cases h;exact⟨some v,W2 (by rw[S.len];exact Wa),by rw[Yi];exact hs⟩
  .rw[Q2 hj]at h;obtain⟨ov,h1,h2⟩:=S.sl j s' h;exact⟨ov,by rw[Q2 hj];exact h1,by rw[ai (U3 hj)];exact h2⟩
theorem lb.Kn(S:lb K BF BH F H σ env L)(i:Nat){d:D}{v:V}(r:Rep K F d v):lb K BF BH F H (σ.set i (some v)) (env.set i (.sh d)) (putL L i []):=
 S.set i ⟨v,rfl,r⟩ (λa h=>by cases h) (λa h=>by cases h)
noncomputable def Qg(F H:Hp)(l:R0):Hp:=λb=>if b∈l then H b else F b
theorem Rk{F H:Hp}{l:R0}{b:Addr}(h:b∈l):Qg F H l b=H b:=by unfold Qg;rw[Q1 h]
theorem sm{F H:Hp}{l:R0}{b:Addr}(h:b∉l):Qg F H l b=F b:=by unfold Qg;rw[B2 h]
theorem lb.Tc(S:lb K BF BH F H σ env L)(i:Nat){s s':Sl}(he:env[i]?=some s)(hs:∀ov,σ[i]?=some ov->Nk K BH F H s ov (L i)->Same F (Qg F H (L i))->Nk K BH (Qg F H (L i)) H s' ov []):lb K BF BH (Qg F H (L i)) H σ (env.set i s') (putL L i []):=by
 have ff:Same F (Qg F H (L i)):=λb o h=>by
  by_cases hb:b∈L i
  .rw[(S.ow i b hb).1]at h;cases h
  .rw[sm hb];exact h
 refine⟨S.s0,S.f0.trans ff,λb o h=>?_,λb o h=>?_,λj a h=>?_,λj k a h1 h2=>?_,by rw[P2];exact S.len,λj t h=>?_⟩
 .by_cases hb:b∈L i
  .rw[Rk hb]at h;exact h
  .rw[sm hb]at h;exact S.fh _ _ h
 .by_cases hb:b∈L i
  .exact .inr (S.ow i b hb).2.1
  .rw[sm hb]at h;exact S.fd _ _ h
 .by_cases hj:j=i
  .subst hj;rw[Yi]at h;cases h
  .rw[ai hj]at h;obtain⟨h1,h2,h3⟩:=S.ow j a h;exact⟨by rw[sm λz=>hj (S.dj j i a h z)];exact h1,h2,h3⟩
 .by_cases hj:j=i
  .subst hj;rw[Yi]at h1;cases h1
  .by_cases hk:k=i
   .subst hk;rw[Yi]at h2;cases h2
   .rw[ai hj]at h1;rw[ai hk]at h2;exact S.dj j k a h1 h2
 .by_cases hj:i=j
  .subst hj;have Wa:i<env.length:=(P1.mp he).1;rw[W2 Wa]at h;cases h;obtain⟨ov,h1,h2⟩:=S.sl i s he;exact⟨ov,h1,by rw[Yi];exact hs ov h1 h2 ff⟩
  .rw[Q2 hj]at h;obtain⟨ov,h1,h2⟩:=S.sl j t h;exact⟨ov,h1,by rw[ai (U3 hj)];exact h2.ext ff λa _ o z=>z⟩
theorem lb.mv(S:lb K BF BH F H σ env L)(i:Nat):Same F (Qg F H (L i)):=λb o h=>by
 by_cases hb:b∈L i
 .rw[(S.ow i b hb).1]at h;cases h
 .rw[sm hb];exact h
theorem lb.own(S:lb K BF BH F H σ env L){i:Nat}{a:Addr}(ha:a∈L i)(o:HO){s':Sl}(hs:∀s ov,env[i]?=some s->σ[i]?=some ov->Nk K BH F H s ov (L i)->Nk K BH F (upd H a o) s' ov (L i)):lb K BF BH F (upd H a o) σ (env.set i s') L:=by
 obtain⟨fa,ba,gJ⟩:=S.ow i a ha;refine⟨λb u h=>?_,S.f0,λb u h=>?_,S.fd,λj c h=>?_,S.dj,by rw[P2];exact S.len,λj t h=>?_⟩
 .rw[rb (Vc h ba)];exact S.s0 _ _ h
 .rw[rb (Vc h fa)];exact S.fh _ _ h
 .obtain⟨h1,h2,h3⟩:=S.ow j c h;refine⟨h1,h2,?_⟩;by_cases hc:c=a
  .subst hc;rw[Lb];simp
  .rw[rb hc];exact h3
 .by_cases hj:i=j
  .subst hj;have Wa:i<env.length:=by have:=(P1.mp h).1;rwa [P2]at this
   rw[W2 Wa]at h;cases h;obtain⟨ov,h1,h2⟩:=S.sl i env[i] (by simp[Wa]);exact⟨ov,h1,hs _ _ (by simp[Wa]) h1 h2⟩
  .rw[Q2 hj]at h;obtain⟨ov,h1,h2⟩:=S.sl j t h;refine⟨ov,h1,h2.ext (.refl _) λc hc u z=>?_⟩;have vY:c≠a:=λe=>by subst e;exact hj (S.dj i j c ha hc)
   rw[rb vY];exact z
end
noncomputable abbrev Mc:=Hp->Hp->Hp->D->V->Prop
noncomputable def rk(K:Frag)(m:Md):Mc:=λBH F' H' d v=>Rep K (ye BH F' H' m) d v
noncomputable def rT(K:Frag):Mc:=λBH F' H' d v=>∃a as rs,d=.lst (rs.map .lst)/\v=.ref a/\H' a=some (.lst (as.map .ref))/\Yd K F' H' rs as/\(a::as).Nodup/\∀b∈a::as,BH b=none/\F' b=none
noncomputable def After(D0:L2.Ends)(m:Mc)(BH F' H':Hp)(σ':L2.St):Out->Prop
 |.nx=>D0.nx σ' H'
 |.bk=>D0.bk σ' H'
 |.ct=>D0.ct σ' H'
 |.rt d=>∀v,m BH F' H' d v->D0.rt v H'
noncomputable def tS(K:Frag)(m:Mc)(g:St):TS:=λD0 σ H=>∃BF BH F env L o Oa,lb K BF BH F H σ env L/\g env=some (o,Oa)/\
 ∀F' H' σ' L',lb K BF BH F' H' σ' Oa L'->Same F F'->After D0 m BH F' H' σ' o
structure Df(X:Cx)(m:Mc)(st:List Stmt)(g:St):Prop where
 h:Pe X st (tS X.K m g)
structure Rb(X:Cx)(m:Mc)(st:Stmt)(g:St):Prop where
 h:PS X st (tS X.K m g)
section
variable{X:Cx}{m:Mc}{m1 m2:Md}{st:Stmt}{rest:List Stmt}{g g2:St}{e a b:Expr}{f fa fb:Ex}{t:Tx}{pos pos':Pos}
theorem Dc:Df X m [] Qa:=Df.mk<|Pe.of L2.qK λD0 σ H Ca=>qd Ca λBF BH F env L o Oa S e k=>by cases e;exact k F H σ L S (.refl _)
theorem La(h:Rb X m st g):Df X m [st] g:=⟨L2.sK h.h⟩
theorem Ia(h1:Rb X m st g)(h2:Df X m rest g2):Df X m (st::rest) (ua g g2):=Df.mk<|Pe.of (L2.rK h1.h h2.h) λD0 σ H Ca=>qd Ca λBF BH F env L o Oa S e k=>by
 unfold ua at e;split at e
 .rename_i Hk h1;exact⟨BF,BH,F,env,L,.nx,Hk,S,h1,λF' H' σ' L' S' s'=>⟨BF,BH,F',Hk,L',o,Oa,S',e,λF2 H2 σ2 L2 S2 s2=>k F2 H2 σ2 L2 S2 (s'.trans s2)⟩⟩
 .rename_i r ic;cases hr:g env with
  |none=>rw[hr]at e;cases e
  |some p=>
   obtain⟨o1,e1⟩:=p;rw[hr]at e;cases e;refine⟨BF,BH,F,env,L,o,Oa,S,hr,λF' H' σ' L' S' s'=>?_⟩;have kk:=k F' H' σ' L' S' s';cases o with
   |nx=>exact absurd hr (ic _)
   |bk=>exact kk
   |ct=>exact kk
   |rt d=>exact kk
theorem LD{pins:M0}{σ:L2.St}{H:Hp}{s:Shared}{a:Addr}{kvs:List (Key×V)}(I:Inv X pins σ H s)(h:H a=some (.dK kvs)):∃o,Inv X pins σ (upd H a (.Tc o (.dK kvs))) s:=by
 have ok:=I.Va a _ h;obtain⟨z,y,vs,r,ob,es,ep,e,c⟩:=ok;refine⟨ob,?_⟩;have ic:∀b o,H b=some o->(∀kv,o≠.dK kv)->upd H a (.Tc ob (.dK kvs)) b=some o:=λb o hb hn=>by
  have:b≠a:=λq=>by subst q;rw[h]at hb;cases hb;exact hn _ rfl
  rw[rb this];exact hb
 have res:=I.un (t':=s.toks) (h':=s.heap) (H':=upd H a (.Tc ob (.dK kvs))) ⟨λb o q _ _ _=>q,λb o q _ _ _=>⟨o.slots,q⟩,λb o q n _=>by
  have:b≠a:=λq=>by subst q;rw[h]at n;cases n
  rw[rb this];exact n,λb o q _=>⟨o,q⟩,λb xs q=>ic b _ q (λ_ z=>by cases z),λb o u q=>ic b _ q (λ_ z=>by cases z),λb ps q=>⟨#[],by rw[ic b _ q (λ_ z=>by cases z)];simp⟩⟩ λb u q=>by
   by_cases hb:b=a
   .subst hb;rw[Lb]at q;cases q;refine⟨e,?_⟩;exact de.stay (I.Va b _ h) (λ_ _ _ q=>q) (λc q=>ic c _ q (λ_ z=>by cases z)) λc xs q=>ic c _ q (λ_ z=>by cases z)
   .rw[rb hb]at q;exact de.stay (I.Va b _ q) (λ_ _ _ q=>q) (λc q=>ic c _ q (λ_ z=>by cases z)) λc xs q=>ic c _ q (λ_ z=>by cases z)
 exact res
theorem Ef(i:Nat){sts:List Stmt}(h2:Df X m sts g2):Df X m sts (ua (Yc i) g2):=Df.mk λpins s0 σ H D0 I Ca=>qd Ca λBF BH F env L o Oa S e k=>by
 unfold ua Yc at e;cases he:env[i]? with
 |none=>rw[he]at e;cases e
 |some s=>
  rw[he]at e;cases s with
  |un=>cases e
  |dc kvs=>
   obtain⟨ov,hσ,lh⟩:=S.sl i _ he;obtain⟨p,rfl,hl,h3⟩:=lh;obtain⟨ob,I'⟩:=LD I h3;have S1:=S.own (i:=i) (a:=p) (by rw[hl];simp) (HO.Tc ob (.dK (be kvs))) (s':=.un) λs ov e1 e2 e3=>trivial;have Wa:i<env.length:=(P1.mp he).1;have S2:=S1.Tc i (s:=.un) (s':=.sh (.dct kvs)) (W2 Wa) λov h1 h ff=>by rw[hσ]at h1;cases h1;refine⟨_,rfl,?_⟩;simp only[Rep];exact⟨p,ob,rfl,by rw[Rk (by rw[hl];simp)];exact Lb⟩
   rw[List.set_set]at S2;exact h2.h pins s0 σ _ D0 I' ⟨BF,BH,_,_,_,o,Oa,S2,e,λF2 H2 σ2 L2 S2' s2=>k F2 H2 σ2 L2 S2' ((S1.mv i).trans s2)⟩
  |jk _=>cases e
  |jl _=>cases e
  |xc _=>cases e
  |nw ds=>
   have S':=S.Tc i (s':=.fr (.lst ds)) he λov _ h ff=>by obtain⟨p,vs,rfl,hl,h3,r⟩:=h;refine⟨_,rfl,?_⟩;simp only[zc];refine⟨p,vs,rfl,?_,Nb.mono (jm ff) _ _ r⟩;rw[Mk ((S.ow i p (by rw[hl];simp)).2.1),Rk (by rw[hl];simp)];exact h3
   exact h2.h pins s0 σ H D0 I ⟨BF,BH,_,_,_,o,Oa,S',e,λF2 H2 σ2 L2 S2 s2=>k F2 H2 σ2 L2 S2 ((S.mv i).trans s2)⟩
  |sh d=>exact h2.h pins s0 σ H D0 I ⟨BF,BH,F,env,L,o,Oa,S,e,k⟩
  |fr d=>exact h2.h pins s0 σ H D0 I ⟨BF,BH,F,env,L,o,Oa,S,e,k⟩
  |ow ds=>
   have S':=S.Tc i (s':=.sh (.lst ds)) he λov _ h ff=>by obtain⟨p,vs,rfl,hl,h3,r⟩:=h;refine⟨_,rfl,?_⟩;simp only[Rep];exact⟨p,vs,rfl,.inl (.inl (by rw[Rk (by rw[hl];simp)];exact h3)),Ba.mono ff _ _ r⟩
   exact h2.h pins s0 σ H D0 I ⟨BF,BH,_,_,_,o,Oa,S',e,λF2 H2 σ2 L2 S2 s2=>k F2 H2 σ2 L2 S2 ((S.mv i).trans s2)⟩
  |tab rs=>
   have S':=S.Tc i (s':=.sh (.lst (rs.map .lst))) he λov _ h ff=>by
    obtain⟨p,as,rfl,hl,nd,h3,r⟩:=h;refine⟨_,rfl,?_⟩;simp only[Rep];refine⟨p,_,rfl,.inl (.inl (by rw[Rk (by rw[hl];simp)];exact h3)),?_⟩;have r':Yd X.K (Qg F H (L i)) (Qg F H (L i)) rs as:=r.mono ff λb hb o z=>by rw[Rk (by rw[hl];exact M1 _ hb)];exact z
    exact r'.reps (.refl _)
   exact h2.h pins s0 σ H D0 I ⟨BF,BH,_,_,_,o,Oa,S',e,λF2 H2 σ2 L2 S2 s2=>k F2 H2 σ2 L2 S2 ((S.mv i).trans s2)⟩
theorem Bb(ha:PD X m1 e f):Rb X (rk X.K m1) (.Return (some e) pos) (Na f):=Rb.mk<|PS.of (qu ha.h) λD0 σ H Ca=>qd Ca λBF BH F env L o Oa S e k=>by
 unfold Na at e;split at e
 .rename_i d h1;cases e;exact⟨BF,BH,F,env,L,d,S,h1,λv F' H' z r=>k F' H' σ L (S.ext z) z.ff v r⟩
 .cases e
theorem Gc{A B:List Stmt}(hc:Ke X e t)(ha:Df X m A g)(hb:Df X m B g2):Rb X m (.If e A B pos) (Za t g g2):=Rb.mk<|PS.of (L2.wK hc ha.h hb.h) λD0 σ H Ca=>qd Ca λBF BH F env L o Oa S e k=>by
 unfold Za at e;split at e
 .rename_i h1;exact⟨BF,BH,F,env,L,true,S,h1,λF' H' z=>dn ⟨BF,BH,F',env,L,o,Oa,S.ext z,e,λF2 H2 σ2 L2 S2 s2=>k F2 H2 σ2 L2 S2 (z.ff.trans s2)⟩⟩
 .rename_i h1;exact⟨BF,BH,F,env,L,false,S,h1,λF' H' z=>Uo ⟨BF,BH,F',env,L,o,Oa,S.ext z,e,λF2 H2 σ2 L2 S2 s2=>k F2 H2 σ2 L2 S2 (z.ff.trans s2)⟩⟩
 .cases e
theorem ub(nd:X.N.Nodup)(i:Nat){x:Str}(ha:PD X .k e f)(hi:X.N[i]?=some x:=by kernel_rfl)(hx:zg X.env.scope x=true:=by kernel_rfl)(hs:swapsWith e (some (.Name x pos')) pos.line X.env=pure false:=by rfl)(hf:Bg X x=true:=by kernel_rfl):Rb X m (.Assign [.Name x pos'] e pos) (Sa i f):=
 Rb.mk<|PS.of (Zm nd hi (Bh hx) ha.h hs (Dh hf)) λD0 σ H Ca=>qd Ca λBF BH F env L o Oa S e k=>by
  unfold Sa at e;split at e
  .rename_i d h1;cases e;exact⟨BF,BH,F,env,L,d,S,h1,λv F' H' z r=>k F' H' _ _ ((S.ext z).Kn i r) z.ff⟩
  .cases e
theorem EN{K:Frag}{BF BH F F' H H':Hp}{σ:L2.St}{env:Env}{L:Nat->R0}(S:lb K BF BH F H σ env L)(z:Ext F H F' H')(i:Nat){p:Addr}{vs:U0}{ds:W0}(h0:H p=none)(h1:H' p=some (.lst vs))(h2:F' p=none)(r:Ba K F' ds vs):lb K BF BH F' H' (σ.set i (some (.ref p))) (env.set i (.ow ds)) (putL L i [p]):=
 (S.ext z).set i ⟨p,vs,rfl,rfl,h1,r⟩ (λa h=>by
  rw[d4]at h;subst h;exact⟨h2,S.s0.free h0,by rw[h1];simp⟩) (λa h j hj hm=>by
  rw[d4]at h;subst h;exact(S.ow j a hm).2.2 h0)
theorem bi(nd:X.N.Nodup)(i:Nat){x:Str}(ha:ze X .k e f)(hi:X.N[i]?=some x:=by kernel_rfl)(hx:zg X.env.scope x=true:=by kernel_rfl)(hs:swapsWith e (some (.Name x pos')) pos.line X.env=pure false:=by rfl)(hf:Bg X x=true:=by kernel_rfl):Rb X m (.Assign [.Name x pos'] e pos) (mf i f):=
 Rb.mk<|PS.of (Zm nd hi (Bh hx) ha hs (Dh hf)) λD0 σ H Ca=>qd Ca λBF BH F env L o Oa S e k=>by
  unfold mf at e;split at e
  .rename_i ds h1;cases e;exact⟨BF,BH,F,env,L,ds,S,h1,λp vs F' H' z h0 h2 h3 r=>k F' H' _ _ (EN S z i h0 h2 h3 r) z.ff⟩
  .cases e
theorem Jp{K:Frag}{H:Hp}{p:Addr}{vs:U0}(h:H p=some (.lst vs)):L2.gy K "list" (.ref p) H:=.inl ⟨rfl,vs,.inl (.inl h)⟩
theorem nv{K:Frag}{BF BH F H:Hp}{σ:L2.St}{env:Env}{L:Nat->R0}(S:lb K BF BH F H σ env L){i:Nat}{ds:W0}(h:env[i]?=some (.ow ds)):∃p vs,σ[i]?=some (some (.ref p))/\L i=[p]/\H p=some (.lst vs)/\Ba K F ds vs:=by obtain⟨ov,h1,h2⟩:=S.sl i _ h;obtain⟨p,vs,rfl,h3,h4,h5⟩:=h2;exact⟨p,vs,h1,h3,h4,h5⟩
theorem qv{K:Frag}{BF BH F H:Hp}{σ:L2.St}{env:Env}{L:Nat->R0}(S:lb K BF BH F H σ env L){i:Nat}{ds ds':W0}{p:Addr}{vs':U0}(he:env[i]?=some (.ow ds))(hl:L i=[p])(hσ:σ[i]?=some (some (.ref p)))(r:Ba K F ds' vs'):lb K BF BH F (upd H p (.lst vs')) σ (env.set i (.ow ds')) L:=
 S.own (i:=i) (a:=p) (by rw[hl];simp) _ λs ov h1 h2 h3=>by rw[hσ]at h2;cases h2;exact⟨p,vs',rfl,hl,Lb,r⟩
theorem tm(i:Nat){x:Str}{p1 p2 p3 p4:Pos}(ha:PD X .k e f)(hN:X.N[i]?=some x:=by kernel_rfl)(hv:Ee X.env.scope x=true:=by kernel_rfl)(hd:(x==("__debug__":Str))=false:=by kernel_rfl)(Mb:(x==("__classdict__":Str))=false:=by kernel_rfl)(Sc:Zb e=true:=by rfl)(gf:attributeBase (.Name x p1) "append" X.env (eval (.Name x p1) X.env)=eval (.Name x p1) X.env:=by rfl)(jf:(p2.endLine==p3.line)=true:=by rfl)(Kf:swapsWith (.Call (.Attribute (.Name x p1) "append" p2) [e] [] p3) none p4.line X.env=pure false:=by rfl):Rb X m (.Expr (.Call (.Attribute (.Name x p1) "append" p2) [e] [] p3) p4) (Sh i f):=
 Rb.mk<|PS.of (Po (Ek m4 c9 b9 jy (kf hN (Cf hv) hd Mb) (jd ha.h Sd (Gd Sc)) gf (by rw[Kj (Lj Sc)];rfl) jf (Pc Sc) rfl) Kf) λD0 σ H Ca=>qd Ca λBF BH F env L o Oa S e k=>by
  unfold Sh at e;split at e
  .rename_i ds d he h1;split at e
   .rename_i hlen;cases e;obtain⟨p,vs,hσ,hl,hp,r⟩:=nv S he;refine⟨_,hσ,Jp hp,BF,BH,F,env,L,d,S,h1,λv F' H' z rv=>?_⟩;have S':=S.ext z;have r':Ba X.K F' (ds++[d]) (vs++[v]):=(Ba.mono z.ff _ _ r).append (Ba.cons rv Ba.nil);refine⟨p,vs,v,rfl,rfl,z.hh _ _ hp,by rw[<-r.length];exact Y1 hlen Pr,?_⟩;exact k F' _ σ L (qv S' he hl hσ r') z.ff
   .cases e
  .cases e
theorem FN(its:P0)(k:Nat)(u:Value)(h:k<=its.length):(its.toArray.extract 0 k).push u++its.toArray.extract k=(its.insertIdx k u).toArray:=by
 have e:its.insertIdx k u=its.take k++u::its.drop k:=by
  induction its generalizing k with
  |nil=>simp at h;subst h;simp
  |cons a t ih=>
   cases k with
   |zero=>simp
   |succ k=>simp at h;simp[ih k h]
 rw[e];simp;rw[O7 (by rw[A8];exact O1 _)]
theorem MD:L2.Cu X "list.insert" (λx vs H Q=>∃(l:Addr) (xs:U0) (k:Int) (y:V),x=.ref l/\vs=[.int k,y]/\H l=some (.lst xs)/\0<=k/\k<=xs.length/\xs.length<lim/\Q .non (upd H l (.lst (xs.insertIdx k.toNat y)))):=by
 intro pins s σ H x vs v us Q I rx rv h;obtain⟨l,xs,k,y,rfl,rfl,hH,kx,hk,hz,q⟩:=h;cases rx;obtain⟨u,w,rfl,ru,Vf⟩:=rv.two;obtain⟨t,rfl⟩:=ru;obtain⟨z,its,n,r,hl,e⟩:=I.Zq hH;have dJ:lim=100000:=rfl;have mx:its.toArray.size<=sizeLine:=by rw[R1,M3];omega
 have qx:Builtin.List.listFitsIndex k=true:=by unfold Builtin.List.listFitsIndex;rw[Z2];exact⟨K2 (Int.le_trans (by decide) kx),K2 (Int.lt_of_lt_of_le (show k<9223372036854775808 by omega) (by decide))⟩
 have iJ:¬(!Builtin.List.listFitsIndex k)=true:=by rw[qx];decide
 refine N7 j7 ⟨_,e,rfl⟩ PySem.F.entry_list_insert (PySem.F.args_list_insert_3 _ _ _)
  (AutoSeq1.list_insert_list_int_val_1 l its.toArray n k t w iJ mx) ⟨e,?_⟩
 refine⟨.non,_,I.Du (its':=its.insertIdx k.toNat w) hH e ?_ ?_ ?_,rfl,q⟩
 .have hn:¬(k<0):=by omega
  have hm:min k.toNat its.toArray.size=k.toNat:=by rw[R1];omega
  have wY:(if k<0 then(k+((its.toArray.size:Nat):Int)).toNat else min k.toNat its.toArray.size)=k.toNat:=by rw[B2 hn,hm]
  dsimp only;rw[wY];exact FN its k.toNat w (by omega)
 .clear e hz mx qx iJ hk kx q hH;have go:∀(k:Nat) (xs:U0) (its:P0),Vals xs its->Vals (xs.insertIdx k y) (its.insertIdx k w):=by
   intro k;induction k with
   |zero=>intro xs its r;simp only[Q6];exact .cons Vf r
   |succ k ih=>
    intro xs its r;cases r with
    |nil=>simp only[List.insertIdx_succ_nil];exact .nil
    |cons r1 r2=>simp only[Y4];exact .cons r1 (ih _ _ r2)
  exact go k.toNat xs its r
 .have:(xs.insertIdx k.toNat y).length<=xs.length+1:=List.length_insertIdx_le_succ;rw[M3];omega
theorem GN(i:Nat){x:Str}{p1 p2 p3 p4:Pos}(hq:PD X m1 a fa)(ha:PD X .k e f)(hN:X.N[i]?=some x:=by kernel_rfl)(hv:Ee X.env.scope x=true:=by kernel_rfl)(hd:(x==("__debug__":Str))=false:=by kernel_rfl)(Mb:(x==("__classdict__":Str))=false:=by kernel_rfl)(Sc:Zb a=true:=by rfl)(yB:Zb e=true:=by rfl)(gf:attributeBase (.Name x p1) "insert" X.env (eval (.Name x p1) X.env)=eval (.Name x p1) X.env:=by rfl)(jf:(p2.endLine==p3.line)=true:=by rfl)(Kf:swapsWith (.Call (.Attribute (.Name x p1) "insert" p2) [a,e] [] p3) none p4.line X.env=pure false:=by rfl):Rb X m (.Expr (.Call (.Attribute (.Name x p1) "insert" p2) [a,e] [] p3) p4) (Yo i fa f):=
 Rb.mk<|PS.of (Po (Ek m4 j7 a9 MD (kf hN (Cf hv) hd Mb) (jd hq.h (jd ha.h Sd (Gd yB)) (Pc Sc)) gf (by rw[Kj (qD Sc yB)];rfl) jf (Pc Sc) (Pk (Lj yB))) Kf) λD0 σ H Ca=>qd Ca λBF BH F env L o Oa S e k=>by
  unfold Yo at e;split at e
  .rename_i ds j d he h1 h2;split at e
   .rename_i hlen;cases e;obtain⟨p,vs,hσ,hl,hp,r⟩:=nv S he;refine⟨_,hσ,Jp hp,BF,BH,F,env,L,_,S,h1,λv F1 H1 z1 r1=>⟨BF,BH,F1,env,L,d,S.ext z1,h2,λw F' H' z2 rv=>?_⟩⟩;have z:=z1.trans z2;have S':=S.ext z;obtain rfl:=pd r1;have r':Ba X.K F' (ds.insertIdx j.toNat d) (vs.insertIdx j.toNat w):=(Ba.mono z.ff _ _ r).insertIdx rv j.toNat;refine⟨p,vs,j,w,rfl,rfl,z.hh _ _ hp,hlen.1,by rw[<-r.length];exact hlen.2.1,by rw[<-r.length];exact hlen.2.2,?_⟩;exact k F' _ σ L (qv S' he hl hσ r') z.ff
   .cases e
  .cases e
end
section
variable{X:Cx}{m:Mc}{m1 m2 m3:Md}{st:Stmt}{rest:List Stmt}{g g2 b:St}{e a c:Expr}{f fa fb fc:Ex}{t:Tx}{pos pos' p1 p2 p3:Pos}
theorem ND(i:Nat){x:Str}(hq:PD X m1 a fa)(ha:PD X .k e f)(hN:X.N[i]?=some x:=by kernel_rfl)(hv:Ee X.env.scope x=true:=by kernel_rfl)(hd:(x==("__debug__":Str))=false:=by kernel_rfl)
  (Mb:(x==("__classdict__":Str))=false:=by kernel_rfl)
  (has:∀v,assign (.Subscript (.Name x p1) a p2) X.env v=(do
   let ov <-holding [v] (eval (.Name x p1) X.env);let iv <-holding [v,ov] (eval a X.env)
   standAt p2
   holding [v,ov,iv] (setItem ov iv v)
   release [v,ov,iv] []):=by intro _;rfl)
  (hs:swapsWithSole [.Subscript (.Name x p1) a p2] e pos.line X.env=pure false:=by rfl) (hw:swappedStores [.Subscript (.Name x p1) a p2] e X.env=pure none:=by rfl)
  (h1:(assignEach [.Subscript (.Name x p1) a p2] X.env).map (·.2)=[assign (.Subscript (.Name x p1) a p2) X.env]:=by rfl):Rb X m (.Assign [.Subscript (.Name x p1) a p2] e pos) (Zo i fa f):=
 Rb.mk<|PS.of (bC ha.h (aC (kf hN (Cf hv) hd Mb) hq.h set_list has) hs hw h1) λD0 σ H Ca=>qd Ca λBF BH F env L o Oa S e k=>by
  unfold Zo at e;split at e
  .rename_i ds d kk he h2 h3;split at e
   .rename_i j hj;cases e;obtain⟨p,vs,hσ,hl,hp,r⟩:=nv S he;refine⟨BF,BH,F,env,L,d,S,h2,λv F1 H1 z1 r1=>⟨_,hσ,BF,BH,F1,env,L,_,S.ext z1,h3,λw F2 H2 z2 r2=>?_⟩⟩;have z:=z1.trans z2;have S':=S.ext z;have r1':=Rep.mono z2.ff _ _ r1;refine⟨p,vs,kk,j,rfl,pd r2,z.hh _ _ hp,by rw[<-r.length];exact hj,?_⟩;exact k F2 _ σ L (qv S' he hl hσ ((Ba.mono z.ff _ _ r).set r1' j)) z.ff
   .cases e
  .cases e
theorem Yd.set{K:Frag}{F H:Hp}:∀{rs:List W0} {as:R0} {j:Nat} {r:W0} {a:Addr} {vs':U0},as.Nodup->Yd K F H rs as->as[j]?=some a->Ba K F r vs'->Yd K F (upd H a (.lst vs')) (rs.set j r) as
 |[],as,j,r,a,vs',_,h,e,_=>by have z:as=[]:=h;subst z;simp at e
 |r0::rs,as,0,r,a,vs',nd,h,e,h'=>by
  obtain⟨b,t,vs,rfl,h1,h2,h3⟩:=h;have e':b=a:=by simpa using e
  subst e';obtain⟨n1,n2⟩:=T2.mp nd;exact⟨b,t,vs',rfl,Lb,h',h3.mono (.refl _) λc hc o z=>by rw[rb (λq=>n1 (by rw[<-q];exact hc))];exact z⟩
 |r0::rs,as,j+1,r,a,vs',nd,h,e,h'=>by
  obtain⟨b,t,vs,rfl,h1,h2,h3⟩:=h;obtain⟨n1,n2⟩:=T2.mp nd;have e':t[j]?=some a:=by simpa using e
  exact⟨b,t,vs,rfl,by rw[rb (λq=>n1 (by rw[q];exact V2 e'))];exact h1,h2,Yd.set n2 h3 e' h'⟩
theorem OD(i:Nat){x:Str}(hq:PD X m1 a fa)(hc:PD X m2 c fc)(ha:PD X .k e f)(hN:X.N[i]?=some x:=by kernel_rfl)(hv:Ee X.env.scope x=true:=by kernel_rfl)(hd:(x==("__debug__":Str))=false:=by kernel_rfl)
  (Mb:(x==("__classdict__":Str))=false:=by kernel_rfl) (Xt:Yq a:=by exact λ_ _=>rfl)
  (has:∀v,assign (.Subscript (.Subscript (.Name x p1) a p2) c p3) X.env v=(do
   let ov <-holding [v] (eval (.Subscript (.Name x p1) a p2) X.env);let iv <-holding [v,ov] (eval c X.env)
   standAt p3
   holding [v,ov,iv] (setItem ov iv v)
   release [v,ov,iv] []):=by intro _;rfl)
  (hs:swapsWithSole [.Subscript (.Subscript (.Name x p1) a p2) c p3] e pos.line X.env=pure false:=by rfl) (hw:swappedStores [.Subscript (.Subscript (.Name x p1) a p2) c p3] e X.env=pure none:=by rfl)
  (h1:(assignEach [.Subscript (.Subscript (.Name x p1) a p2) c p3] X.env).map (·.2)=[assign (.Subscript (.Subscript (.Name x p1) a p2) c p3) X.env]:=by rfl) :
  Rb X m (.Assign [.Subscript (.Subscript (.Name x p1) a p2) c p3] e pos) (Ui i fa fc f):=
 Rb.mk<|PS.of (bC ha.h (aC (Au Bu (kf hN (Cf hv) hd Mb) hq.h Xt) hc.h set_list has) hs hw h1) λD0 σ H Ca=>qd Ca λBF BH F env L o Oa S e k=>by
  unfold Ui at e;split at e
  .rename_i rs d kk ll he h2 h3 h4;split at e
   .rename_i j hj;split at e
    .rename_i r hr;split at e
     .rename_i mm hm;cases e;obtain⟨ov,hσ,lh⟩:=S.sl i _ he;obtain⟨p,as,rfl,hl,nd,hp,ci⟩:=lh;refine⟨BF,BH,F,env,L,d,S,h2,λv F1 H1 z1 r1=>⟨_,hσ,BF,BH,F1,env,L,_,S.ext z1,h3,λw F2 H2 z2 r2=>?_⟩⟩;have z:=z1.trans z2;have S2:=S.ext z;obtain⟨ra,vs,g1,g2,g3⟩:=ci.get hr;have zB:as.length=rs.length:=ci.length.symm;have ni:vi (as.map V.ref) kk=some (.ref ra):=by
       unfold vi;rw[Y0,zB];show((we rs.length kk).bind λj=>(as.map V.ref)[j]?)=_;rw[hj];show(as.map V.ref)[j]?=_;rw[i3,g1];rfl
      refine⟨p,as.map V.ref,kk,.ref ra,rfl,pd r2,.inl (.inl (z.hh _ _ hp)),ni,BF,BH,F2,env,L,_,S2,h4,λw2 F3 H3 z3 r3=>?_⟩;have z':=z.trans z3;have S3:=S.ext z';have r1':=Rep.mono (z2.trans z3).ff _ _ r1;have HN:=Ba.mono z'.ff _ _ g3;refine⟨ra,vs,ll,mm,rfl,pd r3,z'.hh _ _ g2,by rw[<-g3.length];exact hm,?_⟩;have Jl:ra∈as:=V2 g1;obtain⟨n1,n2⟩:=T2.mp nd;refine k F3 _ σ L (S3.own (i:=i) (a:=ra) (by rw[hl];exact M1 _ Jl) _ λs ov e1 e2 e3=>?_) z'.ff;rw[hσ]at e2;cases e2;refine⟨p,as,rfl,hl,nd,?_,?_⟩
      .rw[rb (λq=>n1 (by rw[q];exact Jl))];exact z'.hh _ _ hp
      .have Uy:Yd X.K F3 H3 rs as:=ci.mono z'.ff λb _ o q=>z'.hh _ _ q;exact Uy.set n2 g1 (HN.set r1' mm)
     .cases e
    .cases e
   .cases e
  .cases e
structure Vr(K:Frag)(J:It)(F:Hp)(ds:W0):Prop where
 stop:∀H,Same F H->J.stop ds.length H
 go:∀i H,Same F H->i<ds.length->J.go i H
 tj:∀i H x H' F0,Same F F0->Same F0 H->i<ds.length->J.tj i H x H'->∃d F2,ds[i]?=some d/\Ext F0 H F2 H'/\Rep K F2 d x
noncomputable def QD(K:Frag)(lx:Lx):L2.TI:=λσ H R=>∃BF BH F env L ds,lb K BF BH F H σ env L/\lx env=some ds/\∀J F' H',Ext F H F' H'->Vr K J F' ds->R J H'
noncomputable def PId(X:Cx)(tg iter:Expr)(lx:Lx):Prop:=L2.PI X tg iter (QD X.K lx)
theorem PI.of{tg iter:Expr}{w w':L2.TI}(h:L2.PI X tg iter w')(i:∀σ H R,w σ H R->w' σ H R):L2.PI X tg iter w:=λpins s σ H R I q=>h pins s σ H R I (i σ H R q)
noncomputable def IN(K:Frag)(tl:TE):L2.TI:=λσ H R=>tl σ H λx H1=>∃p,x=.ref p/\(((∃xs,Cc K H1 p xs)/\R (L2.cC K p) H1)\/((∃xs,Qe K H1 p xs)/\R (L2.dC K p) H1))
theorem JN{tg l:Expr}{tl:TE}(hl:PE X l tl):L2.PI X tg l (IN X.K tl):=by
 intro pins s σ H R I h;refine L2.Ua (hl pins s σ H _ I h) λv s1 ⟨x,H1,I1,r1,q1⟩=>?_;obtain⟨p,e,q1⟩:=q1;subst e;cases r1;rcases q1 with⟨⟨xs,hq⟩,q⟩|⟨⟨xs,hq⟩,q⟩
 .obtain⟨its,rv,pl,hz⟩:=I1.list hq;refine b7 pl.isList ?_;refine⟨s1.heap.objs.size,[s1.heap.objs.size],_,_,H1,rfl,I1.kept (t':=s1.toks) λb o e=>B1 _ e,L2.FK p _,⟨_,Z1 _ rfl,rfl,rfl⟩,λb hb=>?_,q⟩;have e:b=s1.heap.objs.size:=by simpa using hb
  subst e;exact I1.Qo (O1 _) (I1.Va.fresh (O1 _))
 .obtain⟨its,rv,pl,hz⟩:=I1.tuple hq;refine wpAny_pyIter_tuple (show s1.heap.IsTuple p its.toArray from pl) ?_;refine⟨s1.heap.objs.size,[s1.heap.objs.size],_,_,H1,rfl,I1.kept (t':=s1.toks) λb o e=>B1 _ e,L2.GK p _,⟨_,Z1 _ rfl,rfl,rfl⟩,λb hb=>?_,q⟩;have e:b=s1.heap.objs.size:=by simpa using hb
  subst e;exact I1.Qo (O1 _) (I1.Va.fresh (O1 _))
theorem zd{tg:Expr}(ha:PD X .k a f):PId X tg a (Db f):=PI.of (JN ha.h) λσ H R Ca=>Cb Ca λBF BH F env L ds S e q=>by
 unfold Db at e;split at e
 .rename_i xs h1;cases e;refine⟨BF,BH,F,env,L,_,S,h1,λv F' H' z r=>?_⟩;simp only[Rep]at r;obtain⟨p,vs,rfl,hs,t⟩:=r;refine⟨p,rfl,.inl ⟨⟨vs,z.fh.seq hs⟩,q _ F' H' z ⟨λH2 s2=>⟨vs,s2.seq hs,by rw[t.length];exact O1 _⟩,λi H2 s2 hi=>?_,λi H2 x H3 F0 s1 s2 hi hy=>?_⟩⟩⟩
  .exact⟨vs,vs[i]'(by rw[<-t.length];exact hi),s2.seq hs,by simp[<-t.length,hi]⟩
  .obtain⟨rfl,hy⟩:=hy;obtain⟨d,k1,k2⟩:=t.Ap (hy vs ((s1.trans s2).seq hs));exact⟨d,F0,k1,.refl s2,Rep.mono s1 _ _ k2⟩
 .rename_i xs h1;cases e;refine⟨BF,BH,F,env,L,_,S,h1,λv F' H' z r=>?_⟩;simp only[Rep]at r;obtain⟨p,vs,rfl,hs,t⟩:=r;refine⟨p,rfl,.inr ⟨⟨vs,Ij z.fh hs⟩,q _ F' H' z ⟨λH2 s2=>⟨vs,Ij s2 hs,by rw[t.length];exact O1 _⟩,λi H2 s2 hi=>?_,λi H2 x H3 F0 s1 s2 hi hy=>?_⟩⟩⟩
  .exact⟨vs,vs[i]'(by rw[<-t.length];exact hi),Ij s2 hs,by simp[<-t.length,hi]⟩
  .obtain⟨rfl,hy⟩:=hy;obtain⟨d,k1,k2⟩:=t.Ap (hy vs (Ij (s1.trans s2) hs));exact⟨d,F0,k1,.refl s2,Rep.mono s1 _ _ k2⟩
 .cases e
theorem RD{K:Frag}{F:Hp}{lo:Int}{n:Nat}:Vr K (L2.Uq lo n) F (cc lo n) where
 stop:=λH _=>by show n<=(cc lo n).length;rw[Og];exact O1 _
 go:=λi H _ h=>by show i<n;rw[Og]at h;exact h
 tj:=λi H x H' F0 _ s2 hi hy=>by obtain⟨rfl,rfl⟩:=hy;rw[Og]at hi;exact⟨_,F0,Ej hi,.refl s2,by simp[Rep]⟩
theorem Qc{tg:Expr}(T:Bt X.mg)(ha:PD X m1 a f)(hg:X.env.kindOf "range"=some .globalImplicit:=by kernel_rfl)(hs:Zb a=true:=by rfl):PId X tg (.Call (.Name "range" p1) [a] [] pos) (vb f):=
 PI.of (L2.JK hg T.range (jd ha.h Sd (Gd hs)) (Gd hs)) λσ H R Ca=>Cb Ca λBF BH F env L ds S e q=>by
  unfold vb at e;split at e
  .rename_i j h1;split at e
   .rename_i hj;cases e;refine⟨BF,BH,F,env,L,_,S,h1,λv F' H' z r=>?_⟩;obtain rfl:=pd r;have hl:(lim:Int)=100000:=rfl;exact⟨j,rfl,by omega,by omega,q _ F' H' z RD⟩
   .cases e
  .cases e
theorem KN{tg:Expr}(T:Bt X.mg)(ha:PD X m1 a f)(hb:PD X m2 c fc)(hg:X.env.kindOf "range"=some .globalImplicit:=by kernel_rfl)(hs:Zb a=true:=by rfl)(Hl:Zb c=true:=by rfl):PId X tg (.Call (.Name "range" p1) [a,c] [] pos) (bn f fc):=
 PI.of (L2.LK hg T.range (jd ha.h (jd hb.h Sd (Gd Hl)) (Pc hs)) ((Pc hs).trans (by rw[Gd Hl])) (Gd Hl)) λσ H R Ca=>Cb Ca λBF BH F env L ds S e q=>by
  unfold bn at e;split at e
  .rename_i i j h1 h2;split at e
   .rename_i hj;cases e;refine⟨BF,BH,F,env,L,_,S,h1,λv F1 H1 z1 r1=>⟨BF,BH,F1,env,L,_,S.ext z1,h2,λw F2 H2 z2 r2=>?_⟩⟩;have hl:(lim:Int)=100000:=rfl;exact⟨i,j,by rw[pd r1,pd r2],⟨by omega,by omega,by omega,by omega⟩,q _ F2 H2 (z1.trans z2) RD⟩
   .cases e
  .cases e
noncomputable def LN(K:Frag)(g:Tg):L2.TG:=λv σ H Q=>∃BF BH F env L d Hk,lb K BF BH F H σ env L/\Rep K F d v/\g d env=some Hk/\∀F' H' σ' L',lb K BF BH F' H' σ' Hk L'->Same F F'->Q σ' H'
noncomputable def sv(X:Cx)(tg:Expr)(g:Tg):Prop:=PG X tg (LN X.K g)
theorem Rc(nd:X.N.Nodup)(i:Nat){x:Str}(hi:X.N[i]?=some x:=by kernel_rfl)(hx:zg X.env.scope x=true:=by kernel_rfl)(hf:Bg X x=true:=by kernel_rfl):sv X (.Name x pos) (gN i):=
 λpins s σ H v u Q I r ⟨BF,BH,F,env,L,d,Hk,S,rd,e,k⟩=>tu nd hi (Bh hx) (Dh hf) pins s σ H v u Q I r (by
  cases e;exact k F H _ _ (S.Kn i rd) (.refl _))
theorem Uc{tg iter:Expr}{lx:Lx}{tg':Tg}{body:List Stmt}(hi:PId X tg iter lx)(hg:sv X tg tg')(hb:Df X m body b)(hp:PassesOwn (model X.prog X.w) X.A X.env X.xe:=by exact PassesOwn.never)(hc:X.calm=true:=by rfl)(hs:∀x,foldedSetIterable iter X.env x=pure x:=by intro _;rfl):Rb X m (.For tg iter body [] pos) (yb tg' lx b):=Rb.mk<|PS.of (L2.OK hp hc hi hg hb.h hs) λD0 σ H Ca=>qd Ca λBF BH F env L o Oa S e k=>by
 unfold yb at e;split at e
 .rename_i ds h1;refine⟨BF,BH,F,env,L,ds,S,h1,λJ F1 H1 z1 J1=>?_⟩;refine⟨λi mm σ H=>mm=ds.length-i/\i<=ds.length/\∃F env L,lb X.K BF BH F H σ env L/\Same F1 F/\forL tg' b (ds.drop i) env=some (o,Oa),⟨ds.length,by simp,V3 _,F1,env,L,S.ext z1,.refl _,e⟩,?_⟩;rintro i mm σ H ⟨rfl,hi,F,env,L,S,s1,e⟩;by_cases Wa:i<ds.length
  .refine .inr ⟨J1.go i H (s1.trans S.fh) Wa,λσ' H'=>∃F env L,lb X.K BF BH F H' σ' env L/\Same F1 F/\forL tg' b (ds.drop (i+1)) env=some (o,Oa),λσ' H' ⟨F,env,L,q1,q2,q3⟩=>⟨ds.length-(i+1),by omega,rfl,Wa,F,env,L,q1,q2,q3⟩,λx H' hy=>?_⟩;obtain⟨d,F2,hd,z2,r2⟩:=J1.tj i H x H' F s1 S.fh Wa hy;rw[D4 Wa]at e;have Hf:ds[i]=d:=by rw[E1 Wa]at hd;exact B3 hd
   rw[Hf]at e;simp only[forL]at e;split at e
   .rename_i env0 AB;refine⟨BF,BH,F2,env,L,d,env0,S.ext z2,r2,AB,λF3 H3 σ3 L3 S3 s3=>?_⟩;have Nj:Same F1 F3:=(s1.trans z2.ff).trans s3;split at e
    .rename_i e1 Wd;exact⟨BF,BH,F3,env0,L3,.nx,e1,S3,Wd,λF4 H4 Zi L4 S4 s4=>⟨F4,e1,L4,S4,Nj.trans s4,e⟩⟩
    .rename_i e1 Wd;exact⟨BF,BH,F3,env0,L3,.ct,e1,S3,Wd,λF4 H4 Zi L4 S4 s4=>⟨F4,e1,L4,S4,Nj.trans s4,e⟩⟩
    .rename_i e1 Wd;cases e;exact⟨BF,BH,F3,env0,L3,.bk,Oa,S3,Wd,λF4 H4 Zi L4 S4 s4=>k F4 H4 Zi L4 S4 ((z1.ff.trans Nj).trans s4)⟩
    .rename_i r e1 Wd;cases e;exact⟨BF,BH,F3,env0,L3,.rt r,Oa,S3,Wd,λF4 H4 Zi L4 S4 s4=>k F4 H4 Zi L4 S4 ((z1.ff.trans Nj).trans s4)⟩
    .cases e
   .cases e
  .have ei:i=ds.length:=by omega
   subst ei;rw[c6]at e;cases e;exact .inl ⟨J1.stop H (s1.trans S.fh),k F H σ L S (z1.ff.trans s1)⟩
 .cases e
end
section
variable{X:Cx}{m:Mc}{m1 m2 m3:Md}{st:Stmt}{rest:List Stmt}{g g2 b:St}{e a c:Expr}{es:T0}{f fa fb fc:Ex}{fs:List Ex}{t:Tx}{pos pos' p p1 p2 p3:Pos}
theorem uv{body:List Stmt}(n:Nat)(hc:Ke X e t)(hb:Df X m body b)(hp:PassesOwn (model X.prog X.w) X.A X.env X.xe:=by exact PassesOwn.never):Rb X m (.While e body [] pos) (Yf t b n):=Rb.mk<|PS.of (L2.EK hp hc hb.h) λD0 σ H Ca=>qd Ca λBF BH F env L o Oa S e k=>by
 refine⟨λmm σ H=>∃F1 env L,lb X.K BF BH F1 H σ env L/\Same F F1/\Yf t b mm env=some (o,Oa),⟨n,F,env,L,S,.refl _,e⟩,?_⟩;rintro mm σ H ⟨F1,env,L,S,s1,e⟩;cases mm with
 |zero=>cases e
 |succ mm=>
  simp only[Yf]at e;split at e
  .rename_i h1;refine⟨BF,BH,F1,env,L,true,S,h1,λF2 H2 z2=>dn ⟨λσ' H'=>∃F1 env L,lb X.K BF BH F1 H' σ' env L/\Same F F1/\Yf t b mm env=some (o,Oa),λσ' H' q=>⟨mm,y8 _,q⟩,?_⟩⟩;split at e
   .rename_i e1 Wd;exact⟨BF,BH,F2,env,L,.nx,e1,S.ext z2,Wd,λF4 H4 Zi L4 S4 s4=>⟨F4,e1,L4,S4,(s1.trans z2.ff).trans s4,e⟩⟩
   .rename_i e1 Wd;exact⟨BF,BH,F2,env,L,.ct,e1,S.ext z2,Wd,λF4 H4 Zi L4 S4 s4=>⟨F4,e1,L4,S4,(s1.trans z2.ff).trans s4,e⟩⟩
   .rename_i e1 Wd;cases e;exact⟨BF,BH,F2,env,L,.bk,Oa,S.ext z2,Wd,λF4 H4 Zi L4 S4 s4=>k F4 H4 Zi L4 S4 ((s1.trans z2.ff).trans s4)⟩
   .rename_i r e1 Wd;cases e;exact⟨BF,BH,F2,env,L,.rt r,Oa,S.ext z2,Wd,λF4 H4 Zi L4 S4 s4=>k F4 H4 Zi L4 S4 ((s1.trans z2.ff).trans s4)⟩
   .cases e
  .rename_i h1;cases e;exact⟨BF,BH,F1,_,L,false,S,h1,λF2 H2 z2=>Uo (k F2 H2 σ L (S.ext z2) (s1.trans z2.ff))⟩
  .cases e
noncomputable def di(K:Frag)(m:Mc)(φ:V0):Sp:=λvs H Q _=>∃F ds d,Same F H/\Ba K F ds vs/\φ ds=some d/\∀v F' H',Ext F H F' H'->m H F' H' d v->Q v H'
structure Fh(P:Program)(w:World)(K:Frag)(mg:O0)(base:Heap)(k:Nat)(x:Str)(m:Mc)(φ:V0):Prop where
 ex:∃(fa:Addr) (fd:FuncData) (ps:Q0),mg x=some (.ref fa)/\keepIn K (.ref fa)=true/\Ce P w K mg base uf k fa fd ps (di K m φ)/\L2.Binds K fd ps []
theorem Fh.mono{P:Program}{w:World}{K:Frag}{mg:O0}{base:Heap}{j k:Nat}{x:Str}{m:Mc}{φ:V0}(h:Fh P w K mg base j x m φ)(hk:j<=k):Fh P w K mg base k x m φ:=by obtain⟨fa,fd,ps,h1,h2,h3,h4⟩:=h.ex;exact⟨⟨fa,fd,ps,h1,h2,h3.mono hk,h4⟩⟩
theorem SD{BH H F2 H2:Hp}(s:Same BH H):∀m:Md,Same (ye H F2 H2 m) (ye BH F2 H2 m)
 |.r=>.refl _
 |.k=>.refl _
 |.f=>λb o h=>by
  show cut F2 BH b=some o;have h':cut F2 H b=some o:=h;unfold cut at h' |-;split at h'
  .rename_i hn;rw[s.free hn];exact h'
  .cases h'
theorem Vy{k:Nat}{x:Str}{φ:V0}(G:Fh X.prog X.w X.K X.mg X.base k x m φ)(hr:rc k X.A)(ha:Cg X .k (e::es) fs)(hg:Gl X x)(Vd:(x==("__debug__":Str))=false)(he:starEach (e::es) X.env=(false,eval e X.env)::starEach es X.env)(Xe:(backTo pos (starEach es X.env)).any (·.1)=false):PE X (.Call (.Name x p) (e::es) [] pos) (λσ H Q=>∃BF BH F env L d,lb X.K BF BH F H σ env L/\Fa φ fs env=some d/\∀v F' H' H0,Same BH H0->Same H H0->Ext F H F' H'->m H0 F' H' d v->Q v H'):=by
 obtain⟨fa,fd,ps,h1,h2,h3,h4⟩:=G.ex;exact PE.of (L2.sL h3 hr hg h1 h2 h4 .nil OC ha.h Vd he Xe) λσ H Q Ca=>Cb Ca λBF BH F env L d S e q=>by
  unfold Fa at e;split at e
  .rename_i ds h5;refine⟨BF,BH,F,env,L,ds,S,h5,λvs F' H' z r=>?_⟩;show di X.K m φ (vs++[]) H' Q E0;rw[d5];exact⟨F',ds,d,z.fh,r,e,λv F2 H2 z2 r2=>q v F2 H2 H' (S.s0.trans z.hh) z.hh (z.trans z2) r2⟩
  .cases e
theorem Sb{k:Nat}{x:Str}{φ:V0}(G:Fh X.prog X.w X.K X.mg X.base k x (rk X.K m1) φ)(hr:rc k X.A)(ha:Cg X .k (e::es) fs)(hg:X.env.kindOf x=some .globalImplicit:=by kernel_rfl)(Vd:(x==("__debug__":Str))=false:=by kernel_rfl)(hn:Zb e=true:=by rfl)(Jf:yg es=true:=by rfl):PD X m1 (.Call (.Name x p) (e::es) [] pos) (Fa φ fs):=
 PD.mk<|PE.of (Vy G hr ha hg Vd (Pc hn) (Pk Jf)) λσ H Q ⟨BF,BH,F,env,L,d,S,e,q⟩=>
  ⟨BF,BH,F,env,L,d,S,e,λv F' H' H0 s0 s1 z r=>q v F' H' z (Rep.mono (SD s0 m1) _ _ r)⟩
theorem MN{k:Nat}{x:Str}{φ:V0}(G:Fh X.prog X.w X.K X.mg X.base k x (rk X.K m1) φ)(hr:rc k X.A)(hg:X.env.kindOf x=some .globalImplicit:=by kernel_rfl)(Vd:(x==("__debug__":Str))=false:=by kernel_rfl):PD X m1 (.Call (.Name x p) [] [] pos) (Fa φ []):=by obtain⟨fa,fd,ps,h1,h2,h3,h4⟩:=G.ex;exact PD.mk<|PE.of (L2.tL h3 hr hg h1 h2 h4 .nil OC Vd) λσ H Q Ca=>Cb Ca λBF BH F env L d S e q=>by have e':φ []=some d:=e;exact⟨F,[],d,S.fh,Ba.nil,e',λv F2 H2 z2 r2=>q v F2 H2 z2 (Rep.mono (SD S.s0 m1) _ _ r2)⟩
noncomputable def tT(K:Frag)(f:Ex):TE:=λσ H Q=>∃BF BH F env L d,lb K BF BH F H σ env L/\f env=some d/\∀v F' H',Ext F H F' H'->rT K H F' H' d v->Q v H'
noncomputable def um(X:Cx)(e:Expr)(f:Ex):Prop:=PE X e (tT X.K f)
theorem TD{K:Frag}{A B F' H':Hp}{d:D}{v:V}(s:Same A B)(h:rT K B F' H' d v):rT K A F' H' d v:=by obtain⟨a,as,rs,h1,h2,h3,h4,h5,h6⟩:=h;exact⟨a,as,rs,h1,h2,h3,h4,h5,λb hb=>⟨s.free (h6 b hb).1,(h6 b hb).2⟩⟩
theorem vv{k:Nat}{x:Str}{φ:V0}(G:Fh X.prog X.w X.K X.mg X.base k x (rT X.K) φ)(hr:rc k X.A)(ha:Cg X .k (e::es) fs)(hg:X.env.kindOf x=some .globalImplicit:=by kernel_rfl)(Vd:(x==("__debug__":Str))=false:=by kernel_rfl)(hn:Zb e=true:=by rfl)(Jf:yg es=true:=by rfl):um X (.Call (.Name x p) (e::es) [] pos) (Fa φ fs):=
 PE.of (Vy G hr ha hg Vd (Pc hn) (Pk Jf)) λσ H Q ⟨BF,BH,F,env,L,d,S,e,q⟩=>
  ⟨BF,BH,F,env,L,d,S,e,λv F' H' H0 s0 s1 z r=>q v F' H' z (TD s1 r)⟩
theorem um.k(h:um X e f):PD X .k e f:=PD.mk<|PE.of h λσ H Q Ca=>Cb Ca λBF BH F env L d S e q=>by
 refine⟨BF,BH,F,env,L,d,S,e,λv F' H' z r=>?_⟩;obtain⟨a,as,rs,rfl,rfl,h3,h4,h5,h6⟩:=r;have ff:Same F' (Qg F' H' (a::as)):=λb o hb=>by
  by_cases hm:b∈a::as
  .rw[(h6 b hm).2]at hb;cases hb
  .rw[sm hm];exact hb
 have z':Ext F H (Qg F' H' (a::as)) H':=⟨z.hh,z.ff.trans ff,λb o hb=>by
  by_cases hm:b∈a::as
  .exact .inr (h6 b hm).1
  .rw[sm hm]at hb;exact z.dm b o hb,λb o hb=>by
  by_cases hm:b∈a::as
  .rw[Rk hm]at hb;exact hb
  .rw[sm hm]at hb;exact z.fh b o hb⟩
 refine q _ _ H' z' ?_;simp only[Rep,ye];refine⟨a,_,rfl,.inl (.inl (by rw[Rk W1];exact h3)),?_⟩;have r':Yd X.K (Qg F' H' (a::as)) (Qg F' H' (a::as)) rs as:=h4.mono ff λb hb o z=>by rw[Rk (M1 _ hb)];exact z
 exact r'.reps (.refl _)
theorem Wy:∀rs:List W0,Xo (rs.map .lst)=some rs
 |[]=>rfl
 |r::rs=>by simp only[V1,Xo,Wy rs]
theorem UD{K:Frag}{BF BH F F' H H':Hp}{σ:L2.St}{env:Env}{L:Nat->R0}(S:lb K BF BH F H σ env L)(z:Ext F H F' H')(i:Nat){a:Addr}{as:R0}{rs:List W0}(h3:H' a=some (.lst (as.map .ref)))(h4:Yd K F' H' rs as)(h5:(a::as).Nodup)(h6:∀b∈a::as,H b=none/\F' b=none):lb K BF BH F' H' (σ.set i (some (.ref a))) (env.set i (.tab rs)) (putL L i (a::as)):=by
 have NN:∀{rs:List W0} {as:R0},Yd K F' H' rs as->∀b∈as,H' b≠none:=by
  intro rs;induction rs with
  |nil=>intro as h b hb;have e:as=[]:=h;subst e;cases hb
  |cons r rs ih=>
   intro as h b hb;obtain⟨c,t,vs,rfl,h1,_,h3⟩:=h;rcases T1.mp hb with rfl|hb
   .rw[h1];simp
   .exact ih h3 b hb
 refine(S.ext z).set i ⟨a,as,rfl,rfl,h5,h3,h4⟩ (λb hb=>⟨(h6 b hb).2,S.s0.free (h6 b hb).1,?_⟩) (λb hb j hj hm=>(S.ow j b hm).2.2 (h6 b hb).1);rcases T1.mp hb with rfl|hb
 .rw[h3];simp
 .exact NN h4 b hb
theorem ON(nd:X.N.Nodup)(i:Nat){x:Str}(ha:um X e f)(hi:X.N[i]?=some x:=by kernel_rfl)(hx:zg X.env.scope x=true:=by kernel_rfl)(hs:swapsWith e (some (.Name x pos')) pos.line X.env=pure false:=by rfl)(hf:Bg X x=true:=by kernel_rfl):Rb X m (.Assign [.Name x pos'] e pos) (Cj i f):=
 Rb.mk<|PS.of (Zm nd hi (Bh hx) ha hs (Dh hf)) λD0 σ H Ca=>qd Ca λBF BH F env L o Oa S e k=>by
  unfold Cj at e;split at e
  .rename_i ds h1;split at e
   .rename_i rs Bo;cases e;refine⟨BF,BH,F,env,L,_,S,h1,λv F' H' z r=>?_⟩;obtain⟨a,as,rs',hd,rfl,h3,h4,h5,h6⟩:=r;injection hd with hd;rw[hd,Wy]at Bo;cases Bo;exact k F' H' _ _ (UD S z i h3 h4 h5 h6) z.ff
   .cases e
  .cases e
theorem PN(i:Nat){x:Str}(hN:X.N[i]?=some x:=by kernel_rfl)(hv:Ee X.env.scope x=true:=by kernel_rfl)(hd:(x==("__debug__":Str))=false:=by kernel_rfl)(Mb:(x==("__classdict__":Str))=false:=by kernel_rfl):Rb X (rT X.K) (.Return (some (.Name x p1)) pos) (bp i):=
 Rb.mk<|PS.of (qu (kf hN (Cf hv) hd Mb)) λD0 σ H Ca=>qd Ca λBF BH F env L o Oa S e k=>by
  unfold bp at e;split at e
  .rename_i rs he;cases e;obtain⟨ov,h1,h2⟩:=S.sl i _ he;obtain⟨a,as,rfl,hl,nd,h3,h4⟩:=h2;exact⟨_,h1,k F H σ L S (.refl _) _ ⟨a,as,rs,rfl,rfl,h3,h4,nd,λb hb=>⟨(S.ow i b (by rw[hl];exact hb)).2.1,(S.ow i b (by rw[hl];exact hb)).1⟩⟩⟩
  .cases e
theorem VD(ha:um X e f):Rb X (rT X.K) (.Return (some e) pos) (Na f):=Rb.mk<|PS.of (qu ha) λD0 σ H Ca=>qd Ca λBF BH F env L o Oa S e k=>by
 unfold Na at e;split at e
 .rename_i d h1;cases e;exact⟨BF,BH,F,env,L,d,S,h1,λv F' H' z r=>k F' H' σ L (S.ext z) z.ff v (TD S.s0 r)⟩
 .cases e
theorem QN{n:Nat}{ds:W0}(h:ds.length<=n):(enter n ds).length=n:=by unfold enter;rw[U2,Y0,W7];omega
theorem WD{K:Frag}{F H:Hp}{N:Q0}{ds:W0}{vs:U0}(fh:Same F H)(r:Ba K F ds vs)(hl:ds.length<=N.length):lb K F H F H (L2.start N vs) (enter N.length ds) (λ_=>[]) where
 s0:=.refl _
 f0:=.refl _
 fh:=fh
 fd:=λa o h=>.inl h
 ow:=λi a h=>by cases h
 dj:=λi j a h=>by cases h
 len:=by rw[QN hl];unfold L2.start;rw[U2,Y0,W7];have:=r.length;omega
 sl:=λi s h=>by
  unfold enter at h;unfold L2.start;by_cases hi:i<ds.length
  .rw[B5 (by rw[Y0];exact hi),i3,E1 hi]at h;cases h;obtain⟨v,h1,h2⟩:=r.get (i:=i) (d:=ds[i]) (by simp[hi]);refine⟨some v,?_,v,rfl,h2⟩;rw[B5 (by rw[Y0,<-r.length];exact hi),i3,h1];rfl
  .rw[X6 (by rw[Y0];omega),Y0,P5]at h;split at h
   .rename_i Wa;cases h;refine⟨none,?_,trivial⟩;rw[X6 (by rw[Y0,<-r.length];omega),Y0,P5,Q1 (by rw[<-r.length];exact Wa)]
   .cases h
theorem XD{p n:Nat}{g:St}{ds:W0}{d:D}(h:run p n g ds=some d):ds.length=p/\((∃Oa,g (enter n ds)=some (.rt d,Oa))\/(d=.non/\∃Oa,g (enter n ds)=some (.nx,Oa))):=by
 unfold run at h;split at h
 .rename_i hl;split at h
  .rename_i d' e1 hg;cases h;exact⟨hl,.inl ⟨e1,hg⟩⟩
  .rename_i e1 hg;cases h;exact⟨hl,.inr ⟨rfl,e1,hg⟩⟩
  .cases h
 .cases h
theorem YD{P:Program}{w:World}{K:Frag}{mg:O0}{base:Heap}{x qual:Str}{st:Stmt}{f:Addr}{fd:FuncData}{N ps:Q0}{k:Nat}{m:Mc}{g:St}(F:Si K x qual st f fd)(S:yj N ps (Ac st))(hm:(∀BH F' H',m BH F' H' .non .non)\/∀env Oa,g env≠some (.nx,Oa))(hb:∀(cdv:Value) (A:Around) (outer:List PySem.Env) (s:Shared) (H:Hp) (E:XK),rc k (A.deeper (envOfC qual (Ac st) s.heap.objs.size f cdv))->Df (Kg uf P w K mg base N qual (Ac st) f cdv A outer s H E).qc m (af st) g):Ce P w K mg base uf (k+1) f fd ps (di K m (run ps.length N.length g)):=by
 have Xe:ps.length<=N.length:=by have:=p5 List.length S.pre;rw[B4]at this;omega
 refine F.ok S (λvs H Q E h=>?_) (λcdv A outer s H vs Q E hr h=>?_)
 .obtain⟨F0,ds,d,h1,h2,h3,h4⟩:=h;rw[<-h2.length];exact(XD h3).1
 .obtain⟨F0,ds,d,h1,h2,h3,h4⟩:=h;obtain⟨hl,h3⟩:=XD h3;refine⟨_,(hb cdv A outer s H E hr).h,?_⟩;have S0:=WD (N:=N) h1 h2 (by omega);rcases h3 with⟨Oa,hg⟩|⟨rfl,Oa,hg⟩
  .exact⟨F0,H,F0,_,_,.rt d,Oa,S0,hg,λF' H' σ' L' S' s' v r=>h4 v F' H' S'.Gp r⟩
  .rcases hm with hm|hm
   .exact⟨F0,H,F0,_,_,.nx,Oa,S0,hg,λF' H' σ' L' S' s'=>h4 .non F' H' S'.Gp (hm _ _ _)⟩
   .exact absurd hg (hm _ _)
theorem Xy{K:Frag}(m1:Md):∀BH F' H',rk K m1 BH F' H' .non .non:=λ_ _ _=>by simp[rk,Rep]
end
noncomputable def Rg(sc Ec:Scope):Scope:=
 { sc with names:=sc.names.map λ(n,k)=>if(k==.free&&Ec.kind==.function&&Ec.names.lookup n==some .cell)then(n,.cell)else(n,k) }
noncomputable def blk(X:Cx)(Ec sc:Scope)(cs:List (Str×Addr))(C:Addr)(s0:Shared)(H0:Hp)(fp:R0)(pins:M0):Cx:=
 { X with
  env:={ scope:=Rg sc Ec,locals:=C,globals:=X.env.globals,cells:=cs,qual:=X.env.qual,func:=none,code:=X.env.code,frame:=X.env.frame,builtins:=X.env.builtins }
  s₀:=s0,H₀:=H0,outer:=X.stack,stack:=X.stack,ex:=fp,fn:=λy=>decide (sc.names.lookup y=some .cell),pn:=X.pn++pins }
structure Ln(N:Q0)(Ec sc:Scope)(x:Str):Prop where
 kind:sc.kind=.function
 loc:∀y∈sc.names,y.2=.local->sc.names.lookup y.1=some .local
 free:∀y∈sc.names,y.2=.free->Ec.names.lookup y.1=some .cell\/Ec.names.lookup y.1=some .free
 var:sc.names.lookup x=some .local\/sc.names.lookup x=some .cell
 own:∀y∈sc.names,(y.2=.local\/y.2=.cell)->y.1=x\/y.1∉N
 cell:∀y∈sc.names,y.2=.cell->y.1=x
 once:(sc.names.filter λy=>y.2==.cell).length<=1
noncomputable def Oj(N:Q0)(Ec sc:Scope)(x:Str):Bool:=
 (sc.kind==.function)&&(sc.names.all λy=>!(y.2==.local)||sc.names.lookup y.1==some .local)&&(sc.names.all λy=>!(y.2==.free)||(Ec.names.lookup y.1==some .cell||Ec.names.lookup y.1==some .free)) &&
 (sc.names.lookup x==some .local||sc.names.lookup x==some .cell)&&(sc.names.all λy=>!(y.2==.local||y.2==.cell)||(y.1==x||!N.contains y.1))&&(sc.names.all λy=>!(y.2==.cell)||y.1==x)&&decide ((sc.names.filter λy=>y.2==.cell).length<=1)
theorem Lp{N:Q0}{Ec sc:Scope}{x:Str}(h:Oj N Ec sc x=true):Ln N Ec sc x:=by
 unfold Oj at h;simp only[Z2,G3,Bool.or_eq_true,ZaC,N2]at h;obtain⟨⟨⟨⟨⟨⟨h1,h2⟩,h3⟩,h4⟩,h5⟩,h6⟩,h7⟩:=h;refine⟨by simpa using h1,λy hy e=>?_,λy hy e=>?_,?_,λy hy e=>?_,λy hy e=>?_,h7⟩
 .rcases h2 y hy with z|z
  .rw[e]at z;simp at z
  .simpa using z
 .rcases h3 y hy with z|z
  .rw[e]at z;simp at z
  .rcases z with z|z
   .exact .inl (by simpa using z)
   .exact .inr (by simpa using z)
 .rcases h4 with z|z
  .exact .inl (by simpa using z)
  .exact .inr (by simpa using z)
 .rcases h5 y hy with z|z
  .rcases e with e|e<;>(rw[e]at z;simp at z)
  .rcases z with z|z
   .exact .inl (by simpa using z)
   .exact .inr (by simpa using z)
 .rcases h6 y hy with z|z
  .rw[e]at z;simp at z
  .simpa using z
theorem ZD{env:PySem.Env}{sc:Scope}(h:∀y∈sc.names,y.2=.free->∃c,env.cells.lookup y.1=some c):
  ∃cl,closureFor sc env=pure cl/\(∀n c,cl.lookup n=some c->env.cells.lookup n=some c)/\(∀y∈sc.names,y.2=.free->∃c,cl.lookup y.1=some c)/\(∀n c,cl.lookup n=some c->(n,NameKind.free)∈sc.names):=by
 have go:∀(names:List (Str×NameKind)) (acc:List (Str×Addr)),(∀y∈names,y.2=.free->∃c,env.cells.lookup y.1=some c)->(∀n c,acc.lookup n=some c->env.cells.lookup n=some c)->
   ∃cl,(forIn names acc (λ(p:Str×NameKind) (cs:List (Str×Addr))=>(match p with|(name,kind)=>if(kind==.free)=true then(do let a <-cellOf env name;pure (ForInStep.yield ((name,a)::cs)))else pure (ForInStep.yield cs):Sem (ForInStep (List (Str×Addr))))):Sem (List (Str×Addr)))=pure cl/\
    (∀n c,cl.lookup n=some c->env.cells.lookup n=some c)/\(∀n c,acc.lookup n=some c->∃c',cl.lookup n=some c')/\(∀y∈names,y.2=.free->∃c,cl.lookup y.1=some c)/\(∀n c,cl.lookup n=some c->acc.lookup n=some c\/(n,NameKind.free)∈names):=by
  intro names;induction names with
  |nil=>intro acc _ ha;exact⟨acc,rfl,ha,λn c e=>⟨c,e⟩,(λy hy=>nomatch hy),λn c e=>.inl e⟩
  |cons p r ih=>
   obtain⟨n,k⟩:=p;intro acc hf ha;have hr:∀y∈r,y.2=.free->∃c,env.cells.lookup y.1=some c:=λy hy=>hf y (M1 _ hy);rw[List.forIn_cons];by_cases hk:k=.free
   .obtain⟨c,hc⟩:=hf (n,k) W1 hk;have gJ:∀n' c',((n,c)::acc).lookup n'=some c'->env.cells.lookup n'=some c':=λn' c' e=>by
     rw[R3]at e;cases hb:n'==n with
     |true=>rw[hb]at e;cases e;rw[t5.mp hb];exact hc
     |false=>rw[hb]at e;exact ha n' c' e
    obtain⟨cl,e1,e2,e3,e4,e5⟩:=ih ((n,c)::acc) hr gJ;have step:(if(k==NameKind.free)=true then(do let a <-cellOf env n;pure (ForInStep.yield ((n,a)::acc)))else pure (ForInStep.yield acc):Sem (ForInStep (List (Str×Addr))))=pure (ForInStep.yield ((n,c)::acc)):=by rw[Q1 (by simp[hk])];unfold cellOf;rw[show env.cells.lookup n=some c from hc];rfl
    refine⟨cl,?_,e2,λn' c' e=>?_,λy hy sx=>?_,λn' c' e=>?_⟩
    .dsimp only;rw[step];exact e1
    .by_cases hb:n'==n
     .exact e3 n' c (by rw[R3,hb])
     .exact e3 n' c' (by rw[R3];simp only[G7]at hb;rw[hb];exact e)
    .rcases T1.mp hy with rfl|hy
     .exact e3 n c (by rw[R3];simp)
     .exact e4 y hy sx
    .rcases e5 n' c' e with z|z
     .rw[R3]at z;cases hb:n'==n with
      |true=>rw[t5.mp hb,<-hk];exact .inr W1
      |false=>rw[hb]at z;exact .inl z
     .exact .inr (M1 _ z)
   .obtain⟨cl,e1,e2,e3,e4,e5⟩:=ih acc hr ha;have step:(if(k==NameKind.free)=true then(do let a <-cellOf env n;pure (ForInStep.yield ((n,a)::acc)))else pure (ForInStep.yield acc):Sem (ForInStep (List (Str×Addr))))=pure (ForInStep.yield acc):=by
     rw[B2 (by simpa using hk)]
    refine⟨cl,?_,e2,e3,λy hy sx=>?_,λn' c' e=>?_⟩
    .dsimp only;rw[step];exact e1
    .rcases T1.mp hy with rfl|hy
     .exact absurd sx hk
     .exact e4 y hy sx
    .rcases e5 n' c' e with z|z
     .exact .inl z
     .exact .inr (M1 _ z)
 obtain⟨cl,e1,e2,_,e4,e5⟩:=go sc.names [] h (λn c e=>by simp at e);refine⟨cl,?_,e2,e4,λn c e=>(e5 n c e).elim (λz=>by simp at z) id⟩;unfold closureFor;exact(p5 (λ(t:Sem (List (Str×Addr)))=>t >>= λcs=>pure cs) e1)
theorem wv:∀(names:List (Str×NameKind)) (n:Nat) (acc:List (Str×Addr)) (h:Heap),(∀y∈names,y.2≠.cell)->cellsFrom n names acc=acc/\pushCells h names=h
 |[],_,_,_,_=>⟨rfl,rfl⟩
 |(x,k)::r,n,acc,h,hc=>by
  have hk:(k==NameKind.cell)=false:=by simpa using hc (x,k) W1
  unfold cellsFrom pushCells;rw[B2 (by rw[hk];simp),B2 (by rw[hk];simp)];exact wv r n acc h λy hy=>hc y (M1 _ hy)
theorem aE:∀(names:List (Str×NameKind)) (n:Nat) (acc:List (Str×Addr)) (h:Heap) (x:Str),(∀y∈names,y.2=.cell->y.1=x)->(names.filter λy=>y.2==.cell).length=1->cellsFrom n names acc=(x,n)::acc/\pushCells h names=h.push { cls:=.type "cell",data:=.cell none }
 |[],_,_,_,_,_,hl=>by simp at hl
 |(y,k)::r,n,acc,h,x,hx,hl=>by
  by_cases hk:k=.cell
  .subst hk;have hr:∀y∈r,y.2≠.cell:=λz hz e=>by
    rw[B7 (by simp)]at hl;have hlen:(r.filter λy=>y.2==.cell).length=0:=by simpa using hl
    have Co:z∈r.filter λy=>y.2==.cell:=E2.mpr ⟨hz,by simp[e]⟩;rw[l6.mp hlen]at Co;cases Co
   have ik:y=x:=hx (y,.cell) W1 rfl;subst ik;unfold cellsFrom pushCells;rw[Q1 (by simp),Q1 (by simp)];exact⟨(wv r _ _ h hr).1,(wv r n acc _ hr).2⟩
  .have mh:(k==NameKind.cell)=false:=by simpa using hk
   unfold cellsFrom pushCells;rw[B2 (by rw[mh];simp),B2 (by rw[mh];simp)];exact aE r n acc h x (λz hz=>hx z (M1 _ hz)) (by rw[m9 (by rw[mh];simp)]at hl;exact hl)
theorem RN{M:Model}{A:Around}{E:N0}{s:Shared}{sc:Scope}{g:Addr}{cl:List (Str×Addr)}{q:Str}{outer:PySem.Env}{Q:PySem.Env->Shared->Prop}(h:Q { scope:=sc,locals:=s.heap.objs.size,globals:=g,cells:=cellsFrom (s.heap.objs.size+1) sc.names cl,qual:=q,func:=none,code:=outer.code,frame:=outer.frame,builtins:=outer.builtins } { s with heap:=pushCells (s.heap.push { cls:=.type "dict",data:=.dict #[] }) sc.names }):wpAny M A (newFunctionEnv sc g cl [] q none .none (some outer)) Q E s:=by simp only[newFunctionEnv,Zak,M6];refine X0 (wpAny_alloc ?_);refine X0 (wpAny_layCells _ (λname kind cells=>by cases xY:kind==NameKind.cell<;>simp[xY]) _ _ _ _ ?_);rw[show({ s with heap:=s.heap.push { cls:=.type "dict",data:=.dict #[] } }:Shared).heap.objs.size=s.heap.objs.size+1 from X5 ..];exact X0 (G1 (G1 h))
noncomputable def vm(Ec:Scope)(n:Str)(k:NameKind):NameKind:=if(k==NameKind.free&&Ec.kind==.function&&Ec.names.lookup n==some .cell)=true then NameKind.cell else k
theorem bE(f:Str->NameKind->NameKind):∀(names:List (Str×NameKind)) (y:Str),(names.map λp=>(p.1,f p.1 p.2)).lookup y=(names.lookup y).map (f y)
 |[],y=>rfl
 |(n,k)::r,y=>by
  rw[V1,R3,R3];cases hy:y==n with
  |true=>have e:y=n:=t5.mp hy;subst e;rfl
  |false=>exact bE f r y
theorem xv{Ec:Scope}(names:List (Str×NameKind))(y:Str):(names.map λ(n,k)=>if(k==NameKind.free&&Ec.kind==.function&&Ec.names.lookup n==some .cell)then(n,NameKind.cell)else(n,k)).lookup y= (names.lookup y).map (vm Ec y):=by rw[<-bE (vm Ec)];congr 1;refine M5 λp _=>?_;obtain⟨n,k⟩:=p;unfold vm;dsimp only;split<;>rfl
theorem Wr{sc Ec:Scope}{y:Str}{k:NameKind}(h:(Rg sc Ec).names.lookup y=some k):∃k0,sc.names.lookup y=some k0/\(k=k0\/(k0=.free/\k=.cell)):=by
 have h':=h;unfold Rg at h';dsimp only at h';rw[xv]at h';cases e:sc.names.lookup y with
 |none=>rw[e]at h';cases h'
 |some k0=>
  rw[e]at h';refine⟨k0,rfl,?_⟩;have h2:vm Ec y k0=k:=B3 h';unfold vm at h2;split at h2
  .rename_i hc;simp only[Z2,t5]at hc;exact .inr ⟨hc.1.1,h2.symm⟩
  .exact .inl h2.symm
theorem cE{sc Ec:Scope}{y:Str}(h:sc.names.lookup y=some .local):(Rg sc Ec).names.lookup y=some .local:=by unfold Rg;dsimp only;rw[xv,h];rfl
theorem SN{sc Ec:Scope}{y:Str}(h:sc.names.lookup y=some .cell):(Rg sc Ec).names.lookup y=some .cell:=by unfold Rg;dsimp only;rw[xv,h];rfl
theorem TN{sc Ec:Scope}{y:Str}(h:sc.names.lookup y=some .free):(Rg sc Ec).names.lookup y=some .cell\/(Rg sc Ec).names.lookup y=some .free:=by
 unfold Rg;dsimp only;rw[xv,h];show some (vm Ec y .free)=some _\/some (vm Ec y .free)=some _;unfold vm;split
 .exact .inl rfl
 .exact .inr rfl
section
variable{X:Cx}{Ec sc:Scope}{x:Str}{i:Nat}{pins:M0}{σ:L2.St}{H:Hp}{s:Shared}{cl:List (Str×Addr)}{fp:R0}
theorem Xr(CO:Ln X.N Ec sc x)(h0:Heap)(n:Nat):(∀y∈sc.names,y.2≠.cell)/\cellsFrom n sc.names cl=cl/\pushCells h0 sc.names=h0\/ (x,NameKind.cell)∈sc.names/\cellsFrom n sc.names cl=(x,n)::cl/\pushCells h0 sc.names=h0.push { cls:=.type "cell",data:=.cell none }:=by
 by_cases h:∀y∈sc.names,y.2≠.cell
 .exact .inl ⟨h,wv sc.names n cl h0 h⟩
 .have h':∃y∈sc.names,y.2=.cell:=by
   refine D5 λz=>h λy hy e=>z ⟨y,hy,e⟩
  obtain⟨⟨y,k⟩,hy,e⟩:=h';have e':k=.cell:=e;subst e';have ik:y=x:=CO.cell (y,.cell) hy rfl;subst ik;have hl:(sc.names.filter λy=>y.2==.cell).length=1:=by have h1:=CO.once;have hm:(y,NameKind.cell)∈sc.names.filter λy=>y.2==.cell:=E2.mpr ⟨hy,by simp⟩;have h2:=j5 hm;omega
  exact .inr ⟨hy,aE sc.names n cl h0 y CO.cell hl⟩
theorem UN(I:Inv X pins σ H s)(CO:Ln X.N Ec sc x)(dE:X.env.scope=Ec)(nd:X.N.Nodup)(hi:X.N[i]?=some x)(c1:∀n c,cl.lookup n=some c->X.env.cells.lookup n=some c)(c2:∀y∈sc.names,y.2=.free->∃c,cl.lookup y.1=some c)(c3:∀n c,cl.lookup n=some c->(n,NameKind.free)∈sc.names)(hf:∀b∈fp,qh X pins H b)(hl:∀b∈fp,b<s.heap.objs.size):Inv (blk X Ec sc (cellsFrom (s.heap.objs.size+1) sc.names cl) s.heap.objs.size s H fp pins) [] (σ.set i none) H { s with heap:=pushCells (s.heap.push { cls:=.type "dict",data:=.dict #[] }) sc.names }:=by
 have keep:∀b o,s.heap.get? b=some o->(pushCells (s.heap.push { cls:=.type "dict",data:=.dict #[] }) sc.names).get? b=some o:=λb o e=>E8 _ _ b o (B1 _ e);have hsz:(s.heap.push { cls:=.type "dict",data:=.dict #[] }).objs.size=s.heap.objs.size+1:=X5 ..;have Jf:(pushCells (s.heap.push { cls:=.type "dict",data:=.dict #[] }) sc.names).Ns s.heap.objs.size (λ_=>none):=(Heap.Ns.new s.heap (.type "dict")).keeps (E8 _ _);have F1:∀y c,(cellsFrom (s.heap.objs.size+1) sc.names cl).lookup y=some c->(X.env.cells.lookup y=some c/\c<s.heap.objs.size)\/(y=x/\c=s.heap.objs.size+1/\(pushCells (s.heap.push { cls:=.type "dict",data:=.dict #[] }) sc.names).IsCell c none):=λy c e=>by
  have old:cl.lookup y=some c->X.env.cells.lookup y=some c/\c<s.heap.objs.size:=λz=>by have z1:=c1 y c z;obtain⟨v,q⟩:=I.cell y c z1;exact⟨z1,q.lt⟩
  rcases Xr (cl:=cl) CO (s.heap.push { cls:=.type "dict",data:=.dict #[] }) (s.heap.objs.size+1)with⟨_,e1,_⟩|⟨_,e1,e2⟩
  .rw[e1]at e;exact .inl (old e)
  .rw[e1,R3]at e;cases hy:y==x with
   |true=>rw[hy]at e;cases e;refine .inr ⟨t5.mp hy,rfl,?_⟩;rw[e2];exact⟨_,by rw[<-hsz];exact Z1 _ rfl,rfl⟩
   |false=>rw[hy]at e;exact .inl (old e)
 have F2:∀y c,y≠x->cl.lookup y=some c->(cellsFrom (s.heap.objs.size+1) sc.names cl).lookup y=some c:=λy c hy e=>by
  rcases Xr (cl:=cl) CO (s.heap.push { cls:=.type "dict",data:=.dict #[] }) (s.heap.objs.size+1)with⟨_,e1,_⟩|⟨_,e1,_⟩
  .rw[e1];exact e
  .rw[e1,R3,beq_false_of_ne hy];exact e
 have fresh:∀a,s.heap.objs.size<=a->H a=none:=λa ha=>I.Va.fresh ha;refine⟨⟨I.ok.mod,CO.kind,I.ok.glob,I.ok.blt,O1 _,λy z c h1 h2=>?_,λy hy=>?_,λy c hy e=>?_,I.ok.hd,I.ok.frames,.inl rfl,λb hb=>⟨?_,λy c e z=>?_⟩,I.bs,E3 I.ok.ph I.sz,λb o e hb=>?_,λb hb z=>?_,I.stack,I.Nx⟩,
  rfl,I.bare,Un.kept keep,⟨_,Jf,λj y v h1 h2 h3=>?_⟩,λy c e=>?_,fresh _ (O1 _),λy c e=>?_,λp hp=>?_,I.Va.kept keep,by rw[P2];exact I.len⟩
 ·-- inj
  rcases F1 y c h1 with⟨a1,a2⟩|⟨a1,a2,_⟩
  .rcases F1 z c h2 with⟨b1,b2⟩|⟨b1,b2,_⟩
   .exact I.ok.inj y z c a1 b1
   .rw[b2]at a2;exact absurd a2 (i8.mpr (m5 _))
  .rcases F1 z c h2 with⟨b1,b2⟩|⟨b1,b2,_⟩
   .rw[a2]at b2;exact absurd b2 (i8.mpr (m5 _))
   .rw[a1,b1]
 ·-- has
  have pi:(Rg sc Ec).names.lookup y=some .cell\/(Rg sc Ec).names.lookup y=some .free:=hy;have hk:sc.names.lookup y=some .cell\/sc.names.lookup y=some .free:=by
   rcases pi with z|z
   .obtain⟨k0,e0,e1⟩:=Wr z;rcases e1 with e1|⟨e1,_⟩
    .rw[<-e1]at e0;exact .inl e0
    .rw[e1]at e0;exact .inr e0
   .obtain⟨k0,e0,e1⟩:=Wr z;rcases e1 with e1|⟨_,e1⟩
    .rw[<-e1]at e0;exact .inr e0
    .cases e1
  rcases hk with z|z
  .have hm:=l4 z;have ik:y=x:=CO.cell (y,.cell) hm rfl;subst ik;rcases Xr (cl:=cl) CO (s.heap.push { cls:=.type "dict",data:=.dict #[] }) (s.heap.objs.size+1)with⟨n1,_,_⟩|⟨_,e1,_⟩
   .exact absurd rfl (n1 _ hm)
   .exact⟨s.heap.objs.size+1,by show(cellsFrom _ _ _).lookup y=_;rw[e1,R3];simp⟩
  .obtain⟨c,hc⟩:=c2 (y,.free) (l4 z) rfl;have mi:cl.lookup y=some c:=hc;rcases Xr (cl:=cl) CO (s.heap.push { cls:=.type "dict",data:=.dict #[] }) (s.heap.objs.size+1)with⟨_,e1,_⟩|⟨_,e1,_⟩
   .exact⟨c,by show(cellsFrom _ _ _).lookup y=_;rw[e1];exact mi⟩
   .cases hy:y==x with
    |true=>exact⟨_,by show(cellsFrom _ _ _).lookup y=_;rw[e1,R3,hy]⟩
    |false=>exact⟨c,by show(cellsFrom _ _ _).lookup y=_;rw[e1,R3,hy];exact mi⟩
 ·-- cab
  have pi:sc.names.lookup y=some .cell:=X2 hy;have hm:=l4 pi;have ik:y=x:=CO.cell (y,.cell) hm rfl;subst ik;have e':(cellsFrom (s.heap.objs.size+1) sc.names cl).lookup y=some c:=e;rcases Xr (cl:=cl) CO (s.heap.push { cls:=.type "dict",data:=.dict #[] }) (s.heap.objs.size+1)with⟨n1,_,_⟩|⟨_,e1,_⟩
  .exact absurd rfl (n1 _ hm)
  .rw[e1,R3]at e';simp at e';show s.heap.objs.size<=c;rw[<-e'];exact m5 _
 .exact J2 (hl b hb)
 .rcases F1 y c e with⟨a1,a2⟩|⟨_,a2,_⟩
  .obtain⟨_,_,_,_,f5,_⟩:=hf b hb;exact f5 y c a1 z
  .have h3:=hl b hb;rw[<-z,a2]at h3;exact absurd h3 (i8.mpr (m5 _))
 .obtain⟨_,_,_,f4,_⟩:=hf b hb;rcases f4 with z|z
  .exact I.ok.Nl b o e z
  .exact absurd (Y1 (N1 e) I.ok.ph) (i8.mpr z)
 .obtain⟨_,f2,f3,_⟩:=hf b hb;rcases T1.mp (I.Oo b z)with q|q
  .exact f2 q
  .exact f3 q
 ·-- loc
  have jJ:j≠i:=λe=>by
   subst e;by_cases Wa:j<σ.length
   .rw[W2 Wa]at h2;cases h2
   .rw[v5 (by rw[P2];omega)]at h2;cases h2
  rw[Q2 (U3 jJ)]at h2;have ik:y≠x:=λe=>jJ (L2.Ox nd (by rw[<-e];exact h1) hi);have VN:y∈X.N:=V2 h1;have hk:sc.names.lookup y=some .free:=by
   have yY:(Rg sc Ec).names.lookup y=some .local\/(Rg sc Ec).names.lookup y=some .cell\/(Rg sc Ec).names.lookup y=some .free:=h3;have own:∀k,sc.names.lookup y=some k->(k=.local\/k=.cell)->False:=λk e hk=>by
    rcases CO.own (y,k) (l4 e) hk with z|z
    .exact ik z
    .exact z VN
   rcases yY with z|z|z
   .obtain⟨k0,e0,e1⟩:=Wr z;rcases e1 with e1|⟨_,e1⟩
    .exact(own k0 e0 (.inl e1.symm)).elim
    .cases e1
   .obtain⟨k0,e0,e1⟩:=Wr z;rcases e1 with e1|⟨e1,_⟩
    .exact(own k0 e0 (.inr e1.symm)).elim
    .rw[e1]at e0;exact e0
   .obtain⟨k0,e0,e1⟩:=Wr z;rcases e1 with e1|⟨_,e1⟩
    .rw[<-e1]at e0;exact e0
    .cases e1
  have hm:=l4 hk;have ho:=CO.free (y,.free) hm rfl;obtain⟨m,hn,zY⟩:=I.loc;obtain⟨u,ru,lk⟩:=zY j y v h1 h2 (by rw[dE];rcases ho with z|z;exact .inr (.inl z);exact .inr (.inr z));refine⟨u,ru,.inr ⟨TN hk,?_⟩⟩;rcases lk with⟨k1,_⟩|⟨_,c,hc,Om⟩
  .have k1':X.env.scope.names.lookup y=some .local:=k1;rw[dE]at k1';rcases ho with z|z<;>(rw[k1']at z;cases z)
  .obtain⟨c',mi⟩:=c2 (y,.free) hm rfl;have e1:=c1 y c' mi;rw[hc]at e1;cases e1;exact⟨c,F2 y c ik mi,Om.keeps keep⟩
 .rcases F1 y c e with⟨a1,_⟩|⟨_,_,a3⟩
  .obtain⟨v,q⟩:=I.cell y c a1;exact⟨v,q.keeps keep⟩
  .exact⟨none,a3⟩
 .rcases F1 y c e with⟨a1,_⟩|⟨_,a2,_⟩
  .exact I.Uf y c a1
  .exact fresh c (by rw[a2];exact m5 _)
 .have Be:p∈X.pn++pins:=by
   have:p∈(X.pn++pins)++[]:=hp;simpa using this
  obtain⟨q1,q2,q3,q4,q5⟩:=I.pin p Be;refine⟨keep _ _ q1,q2,J2 (N1 q1),λz=>?_,q5⟩;rcases T1.mp (I.Oo _ z)with w|w
  .exact q3 w
  .exact q4 w
theorem WN{cs:List (Str×Addr)}{C:Addr}{XN:M0}{YN:L2.St}{Hb:Hp}{s1:Shared}(I:Inv X pins σ H s)(hf:∀b∈fp,qh X pins H b)(Ib:Inv (blk X Ec sc cs C s H fp pins) XN YN Hb s1):Inv X pins σ Hb s1:=
 I.call' (ch:=fp) Ib.os Ib.base Ib.Va Ib.bare λb hb=>by obtain⟨_,f2,_,f4,f5,f6⟩:=hf b hb;exact⟨f4,f2,f5,f6⟩
end
section
variable{prog:Program}{w:World}{A:Around}{R:Result->Shared->Prop}{s:Shared}
theorem aO{elt target iter:Expr}{ifs:T0}{scope:Scope}{pos:Pos}{it acc:Value}{env:PySem.Env}(I:Nat->Shared->Prop)
  (turn:∀n s,I n s->wpAny (model prog w) A (pyNext it) (λr s₁=>match r with
   |none=>R (.ok .next) s₁
   |some v=>wpAny (model prog w) A (letOwnedTupleGo target it v) (λ_ s₁'=>wpAny (model prog w) A (assign target env v) (λ_ s₂=>
     wpAny (model prog w) A (forIn ifs true λc r=>if r=true then do let ok <-isTrue c env (eval c env);pure (ForInStep.yield ok)else pure (ForInStep.yield r)) (λok s₃=>
      if ok=true then wpAny (model prog w) A (eval elt env) (λx s₄=>
       wpAny (model prog w) A (call (.builtin "list.append") [acc,x]) (λ_ s₅=>∃m,m<n/\I m s₅) (λ_ _=>False) s₄) (λ_ _=>False) s₃
      else ∃m,m<n/\I m s₃) (λ_ _=>False) s₂) (λ_ _=>False) s₁') (λ_ _=>False) s₁) (λ_ _=>False) s)
  (n:Nat) (h:I n s) :
  codeAny (model prog w) A (.compLoop (.ListComp elt [⟨target,iter,ifs,0⟩] scope pos) 0 it acc env) R s:=by
 refine codeAny_loop rfl I (λn s hI=>?_) n h;show wpAny _ A ((compTurn (.ListComp elt [⟨target,iter,ifs,0⟩] scope pos) 0 it acc env).onRaise (λx=>do noteFrame x env;theTreesLotGoes x)) _ _ s;refine wpAny_noted ?_;rw[compTurn_list];refine X0 (f8 (X0 (K3 (turn n s hI) (λr s₁ h₁=>?_) λ_ _ h'=>h'.elim)));cases r with
 |none=>exact G1 h₁
 |some v=>
  refine X0 (K3 h₁ (λ_ s₁' h₁'=>?_) λ_ _ h'=>h'.elim);refine X0 (K3 h₁' (λ_ s₂ h₂=>X0 (K3 h₂ (λok s₃ h₃=>?_) λ_ _ h'=>h'.elim)) λ_ _ h'=>h'.elim);cases ok with
  |false=>exact G1 ⟨rfl,h₃⟩
  |true=>exact X0 (X0 (K3 h₃ (λx s₄ h₄=>X0 (K3 h₄ (λ_ s₅ h₅=>G1 (G1 ⟨rfl,h₅⟩)) λ_ _ h'=>h'.elim)) λ_ _ h'=>h'.elim))
end
noncomputable def Mp(X:Cx)(ifs:T0)(tc:TT):Prop:=∀(pins:M0) (s:Shared) (σ:L2.St) (H:Hp) (Q:Bool->Hp->Prop),Inv X pins σ H s->tc σ H Q->
 wpAny (model X.prog X.w) X.A (forIn ifs true λc r=>if r=true then do let ok <-isTrue c X.env (eval c X.env);pure (ForInStep.yield ok)else pure (ForInStep.yield r)) (L2.TP X pins σ Q) X.xe s
theorem yv{X:Cx}:Mp X [] (λ_ H Q=>Q true H):=λpins s σ H Q I h=>wpAny_tests_nil ⟨H,I,h⟩
theorem eE{X:Cx}{c:Expr}{tc:TT}(h:PT X c tc):Mp X [c] tc:=λpins s σ H Q I q=>wpAny_tests_one (h pins s σ H Q I q)
noncomputable def zv(J:It)(i:Nat)(tc:TT)(te:TE)(σ:L2.St)(p:Addr)(Q:VK)(H1:Hp):Prop:=
 ∃W:Nat->Nat->Hp->U0->Prop,(∃m,W 0 m (upd H1 p (.lst [])) [])/\∀k m H2 acc,W k m H2 acc->H2 p=some (.lst acc)/\acc.length<sizeLine/\
  ((J.stop k H2/\Q (.ref p) H2)\/(J.go k H2/\∀v H3,J.tj k H2 v H3->tc (σ.set i (some v)) H3 λb H4=>if b=true then te (σ.set i (some v)) H4 λw H5=>H5 p=some (.lst acc)/\∃m',m'<m/\W (k+1) m' (upd H5 p (.lst (acc++[w]))) (acc++[w])
   else ∃m',m'<m/\W (k+1) m' H4 acc))
noncomputable def Yy(wi:L2.TI)(i:Nat)(tc:TT)(te:TE):TE:=λσ H Q=>wi σ H λJ H1=>∀p,H1 p=none->zv J i tc te σ p Q H1
section
variable{X:Cx}{sc:Scope}{x:Str}{i:Nat}{px pos:Pos}{iter elt:Expr}{ifs:T0}{wi:L2.TI}{tc:TT}{te:TE}
theorem fE(qc:∀e s,X.xe e s->False)(hc:X.calm=true)(nd:X.N.Nodup)(CO:Ln X.N X.env.scope sc x)(hi:X.N[i]?=some x)(hT:∀cs C s0 H0 fp pn,Mp (blk X X.env.scope sc cs C s0 H0 fp pn) ifs tc)(hE:∀cs C s0 H0 fp pn,PE (blk X X.env.scope sc cs C s0 H0 fp pn) elt te){pins:M0}{σ:L2.St}{H:Hp}{s:Shared}{E:N0}{Q:VK}{it:Addr}{fp:R0}{tn:Nat->Heap->Prop}{J:It}{cl:List (Str×Addr)}{RR:Value->Addr->Result->Shared->Prop}(I:Inv X pins σ H s)(T:Turn X.prog X.w X.K (.Name x px) J fp it tn)(st:tn 0 s.heap)(hf:∀b∈fp,qh X pins H b)(hq:∀p,H p=none->zv J i tc te σ p Q H)(c1:∀n c,cl.lookup n=some c->X.env.cells.lookup n=some c)(c2:∀y∈sc.names,y.2=.free->∃c,cl.lookup y.1=some c)(c3:∀n c,cl.lookup n=some c->(n,NameKind.free)∈sc.names)(hRR:∀(p C:Addr) (Hb:Hp) (m:O0) (s1:Shared),Inv X pins σ Hb s1->Q (.ref p) Hb->s1.heap.Ns C m->Hb C=none->C≠X.env.locals->X.s₀.heap.objs.size<=C->(∀y c,X.env.cells.lookup y=some c->c≠C)->(∀q∈X.pn++pins,q.1≠C)->C∉X.fs->RR (.ref p) C (.ok .next) s1):wpAny (model X.prog X.w) X.A (newList []) (λacc s₃=>wpAny (model X.prog X.w) X.A (newFunctionEnv sc X.env.globals cl [] X.env.qual none .none (some X.env)) (λcenv s₄=>codeAny (model X.prog X.w) X.A (.compStart (.ListComp elt [⟨.Name x px,iter,ifs,0⟩] sc pos) 0 (.ref it) acc { cenv with scope:=relabel sc X.env }) (RR acc cenv.locals) s₄) E s₃) E s:=by
 refine E4 (RN ?_);have hp:H s.heap.objs.size=none:=I.fresh;have I3:Inv X pins σ (upd H s.heap.objs.size (.lst [])) { s with heap:=s.heap.push { cls:=.type "list",data:=.seq ([]:P0).toArray } }:=I.KC (t':=s.toks) (its:=[]) (ys:=[]) .nil (V3 _);obtain⟨W,⟨m0,w0⟩,turn⟩:=hq _ hp;generalize kJ:({ s with heap:=s.heap.push { cls:=.type "list",data:=.seq ([]:P0).toArray } }:Shared)=s3 at I3;generalize bO:upd H s.heap.objs.size (.lst [])=H3 at I3 w0;have Wa:∀b∈fp,b<s.heap.objs.size:=λb hb=>by obtain⟨o,e,_⟩:=T.obj 0 s.heap st b hb;exact N1 e
 have AY:∀b o,s.heap.get? b=some o->s3.heap.get? b=some o:=λb o e=>by rw[<-kJ];exact B1 _ e
 have Av:∀b∈fp,qh X pins H3 b:=λb hb=>by obtain⟨f1,f2⟩:=hf b hb;refine⟨?_,f2⟩;rw[<-bO,rb (J2 (Wa b hb))];exact f1
 have st3:tn 0 s3.heap:=T.keep 0 _ _ st λb hb o e=>AY b o e;have lJ:∀b∈fp,b<s3.heap.objs.size:=λb hb=>by obtain⟨o,e,_⟩:=T.obj 0 s3.heap st3 b hb;exact N1 e
 have Ib:=UN (i:=i) (fp:=fp) I3 CO rfl nd hi c1 c2 c3 Av lJ;let Xb:=blk X X.env.scope sc (cellsFrom (s3.heap.objs.size+1) sc.names cl) s3.heap.objs.size s3 H3 fp pins;have hTb:Mp Xb ifs tc:=hT _ _ _ _ _ _;have cO:PE Xb elt te:=hE _ _ _ _ _ _;have stk:∀b,b∈frs X.stack->b<s3.heap.objs.size:=λb hb=>by
  refine Nat.lt_of_not_le λhle=>?_;rcases T1.mp (I3.Oo b hb)with z|z
  .rw[z]at hle;exact absurd I3.lt (i8.mpr hle)
  .exact I3.ku hle z
 have gE:tn 0 (pushCells (s3.heap.push { cls:=.type "dict",data:=.dict #[] }) sc.names):=T.keep 0 _ _ st3 λb hb o e=>E8 _ _ b o (B1 _ e);have xf:∀{α:Type} {t:Sem α} {Q:α->Shared->Prop} {s:Shared},wpAny (model X.prog X.w) X.A t Q X.xe s->wpAny (model X.prog X.w) X.A t Q (λ_ _=>False) s:=λh=>K3 h (λ_ _ q=>q) λe s q=>qc e s q;have dO:PG Xb (.Name x px) (Tq i):=by
  refine tu nd hi ?_ ?_
  .rcases CO.var with z|z
   .exact .inl (cE z)
   .exact .inr (SN z)
  .rcases CO.var with z|z
   .exact .inr (cE z)
   .exact .inl (K2 z)
 have loop:∀s4:Shared,s4={ s3 with heap:=pushCells (s3.heap.push { cls:=.type "dict",data:=.dict #[] }) sc.names }->
   codeAny (model X.prog X.w) X.A (.compLoop (.ListComp elt [⟨.Name x px,iter,ifs,0⟩] sc pos) 0 (.ref it) (.ref s.heap.objs.size) Xb.env) (RR (.ref s.heap.objs.size) s3.heap.objs.size) s4:=by
  rintro s4 rfl;have stat:∀{Hc:Hp},(∀b∈fp,Hc b=none)->∀b∈fp,qh Xb [] Hc b:=λ{Hc} hn b hb=>by
   obtain⟨_,f2,f3,f4,f5,f6⟩:=Av b hb;refine⟨hn b hb,J2 (lJ b hb),λz=>?_,.inl hb,Ib.ok.No b hb |>.2,λq Ni=>?_⟩
   .rcases T1.mp (I3.Oo b z)with w|w
    .exact f2 w
    .exact f3 w
   .have Do:q∈(X.pn++pins)++[]:=Ni;exact f6 q (by simpa using Do)
  refine aO (λn s'=>∃k ov Hc acc,Inv Xb [] (σ.set i ov) Hc s'/\tn k s'.heap/\(∀b∈fp,Hc b=none)/\W k n Hc acc) ?_ m0 ⟨0,none,H3,[],Ib,gE,λb hb=>(Av b hb).1,w0⟩;rintro n s5 ⟨k,ov,Hc,acc,I5,vj,So,w5⟩;obtain⟨lg,hlen,BY⟩:=turn k n Hc acc w5;rcases BY with⟨stop,qn⟩|⟨go,step⟩
  .refine xf (L2.Ua (T.done Xb rfl rfl rfl hc k [] s5 (σ.set i ov) Hc X.xe I5 (stat So) vj stop) λr s6 ⟨hr,I6⟩=>?_);subst hr;obtain⟨mm,eO,_⟩:=I6.loc;refine hRR _ _ Hc mm s6 (WN (Ec:=X.env.scope) (sc:=sc) I3 Av I6) qn eO I6.free (U3 (J2 I3.lt)) I3.sz (λy c e z=>?_) (λq Ni z=>?_) λz=>?_
   .obtain⟨v,q⟩:=I3.cell y c e;exact absurd q.lt (by rw[z];exact O4 _)
   .exact absurd (N1 (I3.pin q Ni).1) (by rw[z];exact O4 _)
   .exact I3.ku (O1 _) z
  .refine xf (L2.Ua (T.item Xb rfl rfl rfl hc k [] s5 (σ.set i ov) Hc X.xe I5 (stat So) vj go) λr s6 ⟨u,hr,h6⟩=>?_);subst hr;refine xf (L2.Ua h6 λ_ s7 ⟨v,H7,I7,r7,y7,Zy,fO⟩=>?_);have gO:=I7.pinned (stat fO) (T.obj _ _ Zy);have hv:=step v H7 y7;refine xf (L2.Ua (dO _ s7 (σ.set i ov) H7 v u (λσ' H'=>σ'=σ.set i (some v)/\H'=H7) gO r7 ⟨by rw[List.set_set],rfl⟩) λ_ s8 ⟨wZ,H8,I8,e8,iO⟩=>?_);subst e8 iO;refine xf (L2.Ua (hTb _ s8 _ H8 _ I8 hv) λok s9 ⟨H9,I9,q9⟩=>?_);have again:∀{az:L2.St} {Mn:Hp} {acc':U0} {Np:Shared},Inv Xb ([]++uj fp s7.heap) az Mn Np->az=σ.set i (some v)->(∃m',m'<n/\W (k+1) m' Mn acc')->
     ∃m,m<n/\∃k ov Hc acc,Inv Xb [] (σ.set i ov) Hc Np/\tn k Np.heap/\(∀b∈fp,Hc b=none)/\W k m Hc acc:=λ{az Mn acc' Np} Yr e10 ⟨m',hm,w10⟩=>by
    subst e10;refine⟨m',hm,k+1,some v,Mn,acc',Yr.yk,T.keep _ _ _ Zy λb hb o e=>(Yr.pin (b,o) (X1 _ (X1 _ (Ro hb e)))).1,λb hb=>?_,w10⟩;obtain⟨o,e,d⟩:=T.obj _ _ Zy b hb;exact(Yr.pin (b,o) (X1 _ (X1 _ (Ro hb e)))).2.1
   cases ok with
   |false=>show ∃m,m<n/\_;rw[B2 Z6]at q9;exact again I9 rfl q9
   |true=>rw[Q1 rfl]at q9;show wpAny _ _ _ _ _ _;refine xf (L2.Ua (cO _ s9 _ H9 _ I9 q9) λww Np ⟨x10,Mn,Yr,r10,jO,m',hm,w10⟩=>?_);refine xf (L2.Ua (jy (X:=Xb) _ Np _ Mn (.ref s.heap.objs.size) [x10] (.ref s.heap.objs.size) [ww] (λ_ H'=>H'=upd Mn s.heap.objs.size (.lst (acc++[x10]))) Yr rfl (.cons r10 .nil) ⟨_,acc,x10,rfl,rfl,jO,hlen,rfl⟩) λ_ xZ ⟨_,yZ,kO,_,iE⟩=>?_);subst iE;exact again kO rfl ⟨m',hm,w10⟩
 subst kJ;have l:=loop _ rfl;exact codeAny_compStart_list l (T.self _ 0 _ _ _ gE l)
theorem jE{pins:M0}{σ:L2.St}{H:Hp}{s:Shared}(I:Inv X pins σ H s)(CO:Ln X.N X.env.scope sc x):∀y∈sc.names,y.2=.free->∃c,X.env.cells.lookup y.1=some c:=λy hy e=>
 I.ok.has y.1 (CO.free y hy e)
theorem bz(qc:∀e s,X.xe e s->False)(hc:X.calm=true)(nd:X.N.Nodup)(CO:Ln X.N X.env.scope sc x)(hi:X.N[i]?=some x)(hI:L2.PI X (.Name x px) iter wi)(hT:∀cs C s0 H0 fp pn,Mp (blk X X.env.scope sc cs C s0 H0 fp pn) ifs tc)(hE:∀cs C s0 H0 fp pn,PE (blk X X.env.scope sc cs C s0 H0 fp pn) elt te)(hs:∀x,foldedSetIterable iter X.env x=pure x):PE X (.ListComp elt [⟨.Name x px,iter,ifs,0⟩] sc pos) (Yy wi i tc te):=by intro pins s σ H Q I h;obtain⟨cl,qk,c1,c2,c3⟩:=ZD (jE I CO);rw[eval_ListComp];refine Z8 (use:=none) rfl hs qk CO.kind CO.loc (L2.Ua (hI pins s σ H _ I h) λv s1 h1=>L2.Ua h1 λitv s2 h2=>?_);obtain⟨it,fp,tn,J,H2,rfl,I2,T,st,hf,hq⟩:=h2;refine fE (RR:=λacc C=>compPost (model X.prog X.w) X.A X.xe none (EP X pins σ Q) acc C) qc hc nd CO hi hT hE I2 T st hf hq c1 c2 c3 ?_;intro p C Hb m s1' I' q Jf hC hL hsz Om BB mJ;refine⟨m,Jf,λh' qi=>?_⟩;have lO:=I'.turned (h':=h') (t':=s1'.toks) (it:=C) (λb o hb e=>qi.extBut b o hb e) hC hL (.inr hsz) Om BB;exact⟨.ref p,Hb,lO,rfl,q⟩
theorem cz{j:Nat}{y:Str}{py spos:Pos}(qc:∀e s,X.xe e s->False)(hc:X.calm=true)(nd:X.N.Nodup)(CO:Ln X.N X.env.scope sc x)(hi:X.N[i]?=some x)(hI:L2.PI X (.Name x px) iter wi)(hT:∀cs C s0 H0 fp pn,Mp (blk X X.env.scope sc cs C s0 H0 fp pn) ifs tc)(hE:∀cs C s0 H0 fp pn,PE (blk X X.env.scope sc cs C s0 H0 fp pn) elt te)(hs:∀x,foldedSetIterable iter X.env x=pure x)(hj:X.N[j]?=some y)(hy:L2.Loc X.env.scope y)(li:X.fn y=true\/X.env.scope.names.lookup y=some .local)(Kf:swapsWith (.ListComp elt [⟨.Name x px,iter,ifs,0⟩] sc pos) (some (.Name y py)) spos.line X.env=pure true):PS X (.Assign [.Name y py] (.ListComp elt [⟨.Name x px,iter,ifs,0⟩] sc pos) spos) (uu (Yy wi i tc te) (Tq j)):=by
 intro pins s σ H D0 I h;obtain⟨cl,qk,c1,c2,c3⟩:=ZD (jE I CO);rw[exec_Assign_Name_used _ _ _ _ Kf];refine X0 (f8 (X0 ?_));show wpAny _ X.A (do let _ <-comprehension (.ListComp elt [⟨.Name x px,iter,ifs,0⟩] sc pos) sc X.env _ (newList []) false (eval iter X.env) (some (assign (.Name y py) X.env))) _ _ s;refine X0 (K3 (Z8 (use:=some (assign (.Name y py) X.env)) (Q:=λ_ s'=>SP X pins D0 .next s') rfl hs qk CO.kind CO.loc
  (L2.Ua (hI pins s σ H _ I h) λv s1 h1=>L2.Ua h1 λitv s2 h2=>?_)) (λ_ s' hq=>G1 (G1 hq)) λ_ _ e=>e)
 obtain⟨it,fp,tn,J,H2,rfl,I2,T,st,hf,hq⟩:=h2;refine fE (RR:=λacc C=>compPost (model X.prog X.w) X.A X.xe (some (assign (.Name y py) X.env)) (λ_ s'=>SP X pins D0 .next s') acc C) qc hc nd CO hi hT hE I2 T st hf hq c1 c2 c3 ?_;intro p C Hb m s1' I' q Jf hC hL hsz Om BB mJ;show wpAny _ X.A (assign (.Name y py) X.env (.ref p)) _ _ _;obtain⟨oC,es,ep,hoC,kE,rest⟩:=id Jf;have Ip:Inv X (pins++[(C,oC)]) σ Hb s1':=I'.Sq λq Ni=>(G2.mp Ni).elim (λz=>I'.pin q (X1 _ z)) λz=>by
  have e:q=(C,oC):=by simpa using z
  subst e;exact⟨hoC,hC,hL,mJ,λv e=>by rw[kE]at e;cases e⟩
 refine Zar (nu Ip nd hj hy (v:=.ref p) rfl (λs2' lE=>?_) li);have mO:=(lE.pin (C,oC) (X1 _ (X1 _ (by simp)))).1;refine⟨m,⟨oC,es,ep,mO,kE,rest⟩,λh' qi=>?_⟩;have nO:Inv X pins (σ.set j (some (.ref p))) Hb s2':=lE.yk;have dz:=nO.turned (h':=h') (t':=s2'.toks) (it:=C) (λb o hb e=>qi.extBut b o hb e) hC hL (.inr hsz) Om BB;exact⟨_,Hb,dz,q⟩
end
section
variable{X:Cx}{sc:Scope}{x:Str}{i:Nat}{px pos:Pos}{iter elt c:Expr}{lx:Lx}{t:Tx}{f:Ex}{m:Md}{r:Mc}
theorem Ext.mE{F H F2 H2 F5 H5:Hp}(e:Ext F H F2 H2)(e5:Ext F2 H2 F5 H5){p:Addr}(hp:H p=none)(f2:F2 p=none)(h2:H2 p≠none)(o:HO):Ext F H F5 (upd H5 p o)/\F5 p=none:=by
 have f5:F5 p=none:=by
  cases z:F5 p with
  |none=>rfl
  |some u=>
   rcases e5.dm p u z with y|y
   .rw[f2]at y;cases y
   .exact absurd y h2
 have e':=e.trans e5;refine⟨⟨λb u h=>by rw[rb (Vc h hp)];exact e'.hh b u h,e'.ff,e'.dm,λb u h=>by rw[rb (Vc h f5)];exact e'.fh b u h⟩,f5⟩
theorem oO{BH F H:Hp}{p:Addr}{o:HO}(hm:m≠.r):Same (ye BH F H m) (ye BH F (upd H p o) m):=by
 cases m with
 |r=>exact absurd rfl hm
 |k=>exact .refl _
 |f=>exact .refl _
theorem pO{K:Frag}{tc:TT}(ux:∀σ H Q,Gn K t σ H Q->tc σ H Q)(hm:m≠.r){BF BH F F1 H H1:Hp}{σ:L2.St}{env:Env}{L:Nat->R0}{ds xs:W0}{J:It}{p:Addr}{Q:VK}(S:lb K BF BH F H σ env L)(z1:Ext F H F1 H1)(J1:Vr K J F1 ds)(hl:ds.length<=lim)(hx:yf i t f env ds=some xs)(hp:H1 p=none)(q:∀vs F' H',Ext F H F' H'->H p=none->H' p=some (.lst vs)->F' p=none->Ba K (ye BH F' H' m) xs vs->Q (.ref p) H'):zv J i tc (tD K m f) σ p Q H1:=by
 have Mq:H p=none:=z1.hh.free hp;have gz:F1 p=none:=z1.fh.free hp;refine⟨λk mm H2 acc=>mm=ds.length-k/\k<=ds.length/\H2 p=some (.lst acc)/\∃F2 ys zs,Ext F H F2 H2/\Same F1 F2/\F2 p=none/\ys.length<=k/\Ba K (ye BH F2 H2 m) ys acc/\yf i t f env (ds.drop k)=some zs/\xs=ys++zs,
  ⟨ds.length,by simp,V3 _,Lb,F1,[],xs,z1.trans (Ext.own z1.fh hp),.refl _,gz,V3 _,Ba.nil,hx,rfl⟩,?_⟩
 rintro k mm H2 acc ⟨rfl,hk,lg,F2,ys,zs,z2,s12,f2,hy,ra,hz,Rm⟩;have CB:acc.length<=lim:=by rw[<-ra.length];omega
 refine⟨lg,j8 CB FD,?_⟩;by_cases Wa:k<ds.length
 .refine .inr ⟨J1.go k H2 (s12.trans z2.fh) Wa,λv H3 iz=>?_⟩;obtain⟨d,F3,hd,z3,r3⟩:=J1.tj k H2 v H3 F2 s12 z2.fh Wa iz;have Hf:ds[k]=d:=by rw[E1 Wa]at hd;exact B3 hd
  rw[D4 Wa,Hf]at hz;simp only[yf]at hz;have Zr:=z2.trans z3;have S3:=(S.ext Zr).Kn i r3;have Op:H2 p≠none:=by rw[lg];simp
  split at hz
  .rename_i ht;refine ux _ _ _ ⟨BF,BH,F3,_,_,true,S3,ht,λF4 H4 z4=>dn ?_⟩;split at hz
   .rename_i e1 zs' he Yt;cases hz;refine⟨BF,BH,F4,_,_,e1,S3.ext z4,he,λw F5 H5 z5 r5=>?_⟩;have aj:=(z3.trans z4).trans z5;obtain⟨zz,f5⟩:=z2.mE aj Mq f2 Op (.lst (acc++[w]));refine⟨aj.hh _ _ lg,ds.length-(k+1),by omega,rfl,Wa,Lb,F5,ys++[e1],zs',zz,s12.trans aj.ff,f5,by rw[U2,U5];omega,?_,Yt,by rw[Rm,w6];rfl⟩;exact Ba.mono (oO hm) _ _ ((Ba.mono (Jj aj m) _ _ ra).append (Ba.cons r5 Ba.nil))
   .cases hz
  .rename_i ht;refine ux _ _ _ ⟨BF,BH,F3,_,_,false,S3,ht,λF4 H4 z4=>Uo ?_⟩;have gs:=z3.trans z4;have f4:F4 p=none:=by
    cases q4:F4 p with
    |none=>rfl
    |some u=>
     rcases gs.dm p u q4 with y|y
     .rw[f2]at y;cases y
     .exact absurd y Op
   exact⟨ds.length-(k+1),by omega,rfl,Wa,gs.hh _ _ lg,F4,ys,zs,z2.trans gs,s12.trans gs.ff,f4,by omega,Ba.mono (Jj gs m) _ _ ra,hz,Rm⟩
  .cases hz
 .have ek:k=ds.length:=by omega
  subst ek;rw[c6]at hz;have DB:zs=[]:=by simp only[yf]at hz;exact(B3 hz).symm
  subst DB;rw[d5]at Rm;subst Rm;exact .inl ⟨J1.stop H2 (s12.trans z2.fh),q acc F2 H2 z2 Mq lg f2 ra⟩
theorem Nn{env:Env}{d:D}(h:cb i lx t f env=some d):∃ds xs,lx env=some ds/\ds.length<=lim/\yf i t f env ds=some xs/\d=.lst xs:=by
 unfold cb at h;split at h
 .rename_i ds h1;split at h
  .rename_i hl;split at h
   .rename_i xs h2;cases h;exact⟨ds,xs,h1,hl,h2,rfl⟩
   .cases h
  .cases h
 .cases h
theorem Bv{tc:TT}(ux:∀σ H Q,Gn X.K t σ H Q->tc σ H Q)(hm:m≠.r)(σ:L2.St)(H:Hp)(Q:VK)(h:tO X.K m (cb i lx t f) σ H Q):Yy (QD X.K lx) i tc (tD X.K m f) σ H Q:=by obtain⟨BF,BH,F,env,L,zZ,S,e,q⟩:=h;obtain⟨ds,xs,h1,hl,h2,e2⟩:=Nn e;cases e2;exact⟨BF,BH,F,env,L,ds,S,h1,λJ F1 H1 z1 J1 p hp=>pO ux hm S z1 J1 hl h2 hp λvs F' H' z a b c d=>q p vs F' H' z a b c d⟩
theorem nE{K:Frag}:∀σ H Q,Gn K xb σ H Q->(λ(_:L2.St) (H:Hp) (Q:Bool->Hp->Prop)=>Q true H) σ H Q:=λσ H Q Ca=>Cb Ca λBF BH F env L b S e q=>by cases e;exact q F H (.refl S.fh)
variable(qc:∀e s,X.xe e s->False)(nd:X.N.Nodup)
include qc nd
theorem Cv(i:Nat)(hI:PId X (.Name x px) iter lx)(hE:∀cs C s0 H0 fp pn,PD (blk X X.env.scope sc cs C s0 H0 fp pn) m elt f)(hm:m≠.r:=by exact λh=>nomatch h)(hc:X.calm=true:=by rfl)(nh:Oj X.N X.env.scope sc x=true:=by kernel_rfl)(hi:X.N[i]?=some x:=by kernel_rfl)(hs:∀x,foldedSetIterable iter X.env x=pure x:=by intro _;rfl):ze X m (.ListComp elt [⟨.Name x px,iter,[],0⟩] sc pos) (cb i lx xb f):=
 PE.of (bz (te:=tD X.K m f) qc hc nd (Lp nh) hi hI (λ_ _ _ _ _ _=>yv) (λcs C s0 H0 fp pn=>(hE cs C s0 H0 fp pn).h) hs) λσ H Q h=>Bv nE hm σ H Q h
theorem jz(i:Nat)(hI:PId X (.Name x px) iter lx)(hT:∀cs C s0 H0 fp pn,Ke (blk X X.env.scope sc cs C s0 H0 fp pn) c t)(hE:∀cs C s0 H0 fp pn,PD (blk X X.env.scope sc cs C s0 H0 fp pn) m elt f)(hm:m≠.r:=by exact λh=>nomatch h)(hc:X.calm=true:=by rfl)(nh:Oj X.N X.env.scope sc x=true:=by kernel_rfl)(hi:X.N[i]?=some x:=by kernel_rfl)(hs:∀x,foldedSetIterable iter X.env x=pure x:=by intro _;rfl):ze X m (.ListComp elt [⟨.Name x px,iter,[c],0⟩] sc pos) (cb i lx t f):=
 PE.of (bz (tc:=Gn X.K t) (te:=tD X.K m f) qc hc nd (Lp nh) hi hI (λcs C s0 H0 fp pn=>eE (hT cs C s0 H0 fp pn)) (λcs C s0 H0 fp pn=>(hE cs C s0 H0 fp pn).h) hs) λσ H Q h=>Bv (λ_ _ _ q=>q) hm σ H Q h
theorem qf(i:Nat)(hI:PId X (.Name x px) iter lx)(hE:∀cs C s0 H0 fp pn,PD (blk X X.env.scope sc cs C s0 H0 fp pn) m elt f)(hm:m≠.r:=by exact λh=>nomatch h)(hc:X.calm=true:=by rfl)(nh:Oj X.N X.env.scope sc x=true:=by kernel_rfl)(hi:X.N[i]?=some x:=by kernel_rfl)(hs:∀x,foldedSetIterable iter X.env x=pure x:=by intro _;rfl):PD X m (.ListComp elt [⟨.Name x px,iter,[],0⟩] sc pos) (cb i lx xb f):=
 (Cv qc nd i hI hE hm hc nh hi hs).d λenv d h=>by obtain⟨_,xs,_,_,_,e⟩:=Nn h;exact⟨xs,e⟩
theorem On(i:Nat)(hI:PId X (.Name x px) iter lx)(hT:∀cs C s0 H0 fp pn,Ke (blk X X.env.scope sc cs C s0 H0 fp pn) c t)(hE:∀cs C s0 H0 fp pn,PD (blk X X.env.scope sc cs C s0 H0 fp pn) m elt f)(hm:m≠.r:=by exact λh=>nomatch h)(hc:X.calm=true:=by rfl)(nh:Oj X.N X.env.scope sc x=true:=by kernel_rfl)(hi:X.N[i]?=some x:=by kernel_rfl)(hs:∀x,foldedSetIterable iter X.env x=pure x:=by intro _;rfl):PD X m (.ListComp elt [⟨.Name x px,iter,[c],0⟩] sc pos) (cb i lx t f):=
 (jz qc nd i hI hT hE hm hc nh hi hs).d λenv d h=>by obtain⟨_,xs,_,_,_,e⟩:=Nn h;exact⟨xs,e⟩
omit qc nd
theorem oE{te:TE}{j:Nat}(D0:L2.Ends)(σ:L2.St)(H:Hp)(h:tS X.K r (Sa j f) D0 σ H)(hf:∀env d,f env=some d->∃ds,d=.lst ds)(qO:∀Q,tO X.K .k f σ H Q->te σ H Q):uu te (Tq j) D0 σ H:=by
 obtain⟨BF,BH,F,env,L,o,Oa,S,e,k⟩:=h;unfold Sa at e;split at e
 .rename_i d h1;cases e;obtain⟨ds,rfl⟩:=hf env d h1;refine qO _ ⟨BF,BH,F,env,L,ds,S,h1,λp vs F' H' z h0 h2 h3 rr=>?_⟩;have z':=z.Tc h0 h2 h3;have rp:Rep X.K (upd F' p (.lst vs)) (.lst ds) (.ref p):=by
   simp only[Rep];exact⟨p,vs,rfl,.inl (.inl Lb),Ba.mono (λb u e=>by rw[rb (Vc e h3)];exact e) _ _ rr⟩
  exact k _ H' _ _ ((S.ext z').Kn j rp) z'.ff
 .cases e
include qc nd
theorem pE(j i:Nat){y:Str}{py spos:Pos}(hI:PId X (.Name x px) iter lx)(hE:∀cs C s0 H0 fp pn,PD (blk X X.env.scope sc cs C s0 H0 fp pn) .k elt f)(hc:X.calm=true:=by rfl)(nh:Oj X.N X.env.scope sc x=true:=by kernel_rfl)(hi:X.N[i]?=some x:=by kernel_rfl)(hs:∀x,foldedSetIterable iter X.env x=pure x:=by intro _;rfl)(hj:X.N[j]?=some y:=by kernel_rfl)(hy:zg X.env.scope y=true:=by kernel_rfl)(li:Bg X y=true:=by kernel_rfl)(Kf:swapsWith (.ListComp elt [⟨.Name x px,iter,[],0⟩] sc pos) (some (.Name y py)) spos.line X.env=pure true:=by rfl):Rb X r (.Assign [.Name y py] (.ListComp elt [⟨.Name x px,iter,[],0⟩] sc pos) spos) (Sa j (cb i lx xb f)):=
 Rb.mk<|PS.of (cz (te:=tD X.K .k f) qc hc nd (Lp nh) hi hI (λ_ _ _ _ _ _=>yv) (λcs C s0 H0 fp pn=>(hE cs C s0 H0 fp pn).h) hs hj (Bh hy) (Dh li) Kf) λD0 σ H h=>oE D0 σ H h (λenv d h=>by obtain⟨_,xs,_,_,_,e⟩:=Nn h;exact⟨xs,e⟩) λQ q=>Bv (m:=.k) nE (λh=>nomatch h) σ H Q q
theorem qE(j i:Nat){y:Str}{py spos:Pos}(hI:PId X (.Name x px) iter lx)(hT:∀cs C s0 H0 fp pn,Ke (blk X X.env.scope sc cs C s0 H0 fp pn) c t)(hE:∀cs C s0 H0 fp pn,PD (blk X X.env.scope sc cs C s0 H0 fp pn) .k elt f)(hc:X.calm=true:=by rfl)(nh:Oj X.N X.env.scope sc x=true:=by kernel_rfl)(hi:X.N[i]?=some x:=by kernel_rfl)(hs:∀x,foldedSetIterable iter X.env x=pure x:=by intro _;rfl)(hj:X.N[j]?=some y:=by kernel_rfl)(hy:zg X.env.scope y=true:=by kernel_rfl)(li:Bg X y=true:=by kernel_rfl)(Kf:swapsWith (.ListComp elt [⟨.Name x px,iter,[c],0⟩] sc pos) (some (.Name y py)) spos.line X.env=pure true:=by rfl):Rb X r (.Assign [.Name y py] (.ListComp elt [⟨.Name x px,iter,[c],0⟩] sc pos) spos) (Sa j (cb i lx t f)):=
 Rb.mk<|PS.of (cz (tc:=Gn X.K t) (te:=tD X.K .k f) qc hc nd (Lp nh) hi hI (λcs C s0 H0 fp pn=>eE (hT cs C s0 H0 fp pn)) (λcs C s0 H0 fp pn=>(hE cs C s0 H0 fp pn).h) hs hj (Bh hy) (Dh li) Kf) λD0 σ H h=>oE D0 σ H h (λenv d h=>by obtain⟨_,xs,_,_,_,e⟩:=Nn h;exact⟨xs,e⟩) λQ q=>Bv (m:=.k) (λ_ _ _ q=>q) (λh=>nomatch h) σ H Q q
omit qc nd
theorem kz{K:Frag}{F H:Hp}:∀{rs:List W0} {as:R0},Yd K F H rs as->∀b∈as,H b≠none
 |[],as,h,b,hb=>by have e:as=[]:=h;subst e;cases hb
 |r::rs,as,h,b,hb=>by
  obtain⟨c,t,vs,rfl,h1,_,h3⟩:=h;rcases T1.mp hb with rfl|hb
  .rw[h1];simp
  .exact kz h3 b hb
theorem rE{K:Frag}{F H:Hp}{a:Addr}{vs:U0}{r:W0}(h1:H a=some (.lst vs))(h2:Ba K F r vs):∀{rs:List W0} {as:R0},Yd K F H rs as->Yd K F H (rs++[r]) (as++[a])
 |[],as,h=>by have e:as=[]:=h;subst e;exact⟨a,[],vs,rfl,h1,h2,rfl⟩
 |r0::rs,as,h=>by obtain⟨b,t,ws,rfl,k1,k2,k3⟩:=h;exact⟨b,t++[a],ws,rfl,k1,k2,rE h1 h2 k3⟩
theorem sE{K:Frag}{BF BH F F1 H H1:Hp}{σ:L2.St}{env:Env}{L:Nat->R0}{ds xs:W0}{J:It}{p:Addr}{Q:VK}(S:lb K BF BH F H σ env L)(z1:Ext F H F1 H1)(J1:Vr K J F1 ds)(hl:ds.length<=lim)(hx:yf i xb f env ds=some xs)(hf:∀env d,f env=some d->∃ds,d=.lst ds)(hp:H1 p=none)(q:∀v F' H',Ext F H F' H'->rT K H F' H' (.lst xs) v->Q v H'):zv J i (λ_ H Q=>Q true H) (tO K .k f) σ p Q H1:=by
 have Mq:H p=none:=z1.hh.free hp;have gz:F1 p=none:=z1.fh.free hp;refine⟨λk mm H2 acc=>mm=ds.length-k/\k<=ds.length/\H2 p=some (.lst acc)/\∃F2 ys zs as,Ext F H F2 H2/\Same F1 F2/\(∀b∈p::as,H b=none/\F2 b=none)/\(p::as).Nodup/\ys.length<=k/\acc=as.map .ref/\Yd K F2 H2 ys as/\yf i xb f env (ds.drop k)=some zs/\xs=ys.map .lst++zs,
  ⟨ds.length,by simp,V3 _,Lb,F1,[],xs,[],z1.trans (Ext.own z1.fh hp),.refl _,λb hb=>by rw[d4]at hb;subst hb;exact⟨Mq,gz⟩,by simp,V3 _,rfl,rfl,hx,rfl⟩,?_⟩
 rintro k mm H2 acc ⟨rfl,hk,lg,F2,ys,zs,as,z2,s12,vx,nd,hy,rfl,ci,hz,Rm⟩;have CB:(as.map V.ref).length<=lim:=by rw[Y0,<-ci.length];omega
 refine⟨lg,j8 CB FD,?_⟩;by_cases Wa:k<ds.length
 .refine .inr ⟨J1.go k H2 (s12.trans z2.fh) Wa,λv H3 iz=>dn ?_⟩;obtain⟨d,F3,hd,z3,r3⟩:=J1.tj k H2 v H3 F2 s12 z2.fh Wa iz;have Hf:ds[k]=d:=by rw[E1 Wa]at hd;exact B3 hd
  rw[D4 Wa,Hf]at hz;simp only[yf,xb]at hz;have Zr:=z2.trans z3;have S3:=(S.ext Zr).Kn i r3;split at hz
  .rename_i e1 zs' he Yt;cases hz;obtain⟨row,rfl⟩:=hf _ _ he;refine⟨BF,BH,F3,_,_,row,S3,he,λa vs F5 H5 z5 CY DY EY rr=>?_⟩;have aj:=z3.trans z5;have Op:H2 p≠none:=by rw[lg];simp
   have EB:H2 a=none:=z3.hh.free CY;have nJ:p≠a:=λe=>by subst e;exact Op EB
   have rO:a∉as:=λz=>kz ci a z EB;obtain⟨zz,f5⟩:=z2.mE aj Mq (vx p W1).2 Op (.lst (as.map V.ref++[V.ref a]));have sO:p∉as:=(T2.mp nd).1;have uO:Yd K F5 (upd H5 p (.lst (as.map V.ref++[V.ref a]))) ys as:=ci.mono aj.ff λb hb o e=>by rw[rb (λq=>sO (by rw[<-q];exact hb))];exact aj.hh _ _ e
   refine⟨aj.hh _ _ lg,ds.length-(k+1),by omega,rfl,Wa,Lb,F5,ys++[row],zs',as++[a],zz,s12.trans aj.ff,λb hb=>?_,?_,by rw[U2,U5];omega,by rw[D3];rfl,?_,Yt,by rw[Rm,D3,w6];rfl⟩
   .have vO:∀b,b∈p::as->F5 b=none:=λb hb=>by
     cases q5:F5 b with
     |none=>rfl
     |some u=>
      rcases aj.dm b u q5 with y|y
      .rw[(vx b hb).2]at y;cases y
      .rcases T1.mp hb with e|e
       .rw[e]at y;exact absurd y Op
       .exact absurd y (kz ci b e)
    rcases T1.mp hb with e|e
    .rw[e];exact⟨Mq,f5⟩
    .rcases G2.mp e with e|e
     .exact⟨(vx b (M1 _ e)).1,vO b (M1 _ e)⟩
     .rw[d4]at e;subst e;exact⟨z2.hh.free EB,EY⟩
   .obtain⟨n1,n2⟩:=T2.mp nd;refine T2.mpr ⟨λz=>?_,?_⟩
    .rcases G2.mp z with e|e
     .exact n1 e
     .rw[d4]at e;exact nJ e
    .rw[K5];exact⟨n2,by simp,λb hb c hc e=>by rw[d4]at hc;subst hc;subst e;exact rO hb⟩
   .exact rE (by rw[rb (U3 nJ)];exact DY) rr uO
  .cases hz
 .have ek:k=ds.length:=by omega
  subst ek;rw[c6]at hz;have DB:zs=[]:=by simp only[yf]at hz;exact(B3 hz).symm
  subst DB;rw[d5]at Rm;subst Rm;exact .inl ⟨J1.stop H2 (s12.trans z2.fh),q _ F2 H2 z2 ⟨p,as,ys,rfl,rfl,lg,ci,nd,vx⟩⟩
include qc nd
theorem wO(j i:Nat){y:Str}{py spos:Pos}(hI:PId X (.Name x px) iter lx)(hE:∀cs C s0 H0 fp pn,ze (blk X X.env.scope sc cs C s0 H0 fp pn) .k elt f)(hf:∀env d,f env=some d->∃ds,d=.lst ds)(hc:X.calm=true:=by rfl)(nh:Oj X.N X.env.scope sc x=true:=by kernel_rfl)(hi:X.N[i]?=some x:=by kernel_rfl)(hs:∀x,foldedSetIterable iter X.env x=pure x:=by intro _;rfl)(hj:X.N[j]?=some y:=by kernel_rfl)(hy:zg X.env.scope y=true:=by kernel_rfl)(li:Bg X y=true:=by kernel_rfl)(Kf:swapsWith (.ListComp elt [⟨.Name x px,iter,[],0⟩] sc pos) (some (.Name y py)) spos.line X.env=pure true:=by rfl):Rb X r (.Assign [.Name y py] (.ListComp elt [⟨.Name x px,iter,[],0⟩] sc pos) spos) (Cj j (cb i lx xb f)):=
 Rb.mk<|PS.of (cz (te:=tO X.K .k f) qc hc nd (Lp nh) hi hI (λ_ _ _ _ _ _=>yv) hE hs hj (Bh hy) (Dh li) Kf) λD0 σ H Ca=>qd Ca λBF BH F env L o Oa S e k=>by
  unfold Cj at e;split at e
  .rename_i xs h1;split at e
   .rename_i rs Bo;cases e;obtain⟨ds,xs',h2,hl,h3,e2⟩:=Nn h1;cases e2;refine⟨BF,BH,F,env,L,ds,S,h2,λJ F1 H1 z1 J1 p hp=>sE S z1 J1 hl h3 hf hp λv F' H' z rr=>?_⟩;obtain⟨a,as,rs',hd,rfl,h4,h5,h6,h7⟩:=rr;injection hd with hd;rw[hd,Wy]at Bo;cases Bo;exact k F' H' _ _ (UD S z j h4 h5 h6 h7) z.ff
   .cases e
  .cases e
end
section
variable{X:Cx}{m m1 m2:Md}{a b:Expr}{f g:Ex}{pos p p2:Pos}
theorem xO:Ze X (.type "range") (λxs H Q=>∃j:Int,xs=[.int j]/\∀q,H q=none->Q (.ref q) (upd H q (.rng 0 j))):=by intro pins s σ H xs us Q I r h;obtain⟨j,rfl,q⟩:=h;obtain⟨u,rfl,ru⟩:=r.one;obtain⟨t,rfl⟩:=ru;refine call_range_1 ⟨.ref s.heap.objs.size,_,I.laid (o:=.rng 0 j) (λb ob q=>B1 _ q) (O1 _) ⟨_,_,_,Z1 _ rfl⟩,rfl,q _ I.fresh⟩
theorem yO(hc:X.calm=true):Ze X (.type "list") (λxs H Q=>∃(q:Addr) (j:Int),xs=[.ref q]/\H q=some (.rng 0 j)/\-(lim:Int)<=j/\j<=lim/\∀l,H l=none->Q (.ref l) (upd H l (.lst ((List.range j.toNat).map λk=>V.int (0+(k:Nat)))))):=by
 intro pins s σ H xs us Q I r h;obtain⟨q,j,rfl,hq,j0,j1,k⟩:=h;obtain⟨u,rfl,ru⟩:=r.one;cases ru;obtain⟨t,u,v,e⟩:=(show de X.prog X.w H s.heap q (.rng 0 j)from I.Va q _ hq)
 have hl:(lim:Int)=100000:=rfl;have hn:Builtin.Range.rangeSize 0 j 1=((j.toNat:Nat):Int):=by rw[rangeSize_one];split<;>omega
 refine call_list_range (n:=j.toNat) (I.ok.hd hc) e (small_one (by decide) (by decide) (by omega) (by omega)) hn (by omega) λh' tk acc' c' hk hS' lg=>?_;have hv:Vals ((List.range j.toNat).map λk=>V.int (0+(k:Nat))) acc'.toList:=by
  have hlen:acc'.toList.length=j.toNat:=by rw[R4];exact lg.1
  have go:∀(n:Nat) (l:P0) (st:Nat),l.length=n->(∀(i:Nat) (w:Value),l[i]?=some w->∃t,w=.int (0+((st+i:Nat):Int)) t)->Vals ((List.range' st n).map λk=>V.int (0+(k:Nat))) l:=by
   intro n;induction n with
   |zero=>intro l st hl _;rw[l6.mp hl];exact .nil
   |succ n ih=>
    intro l st hl hw;cases l with
    |nil=>simp at hl
    |cons w l=>rw[List.range'_succ,V1];obtain⟨t,e⟩:=hw 0 w rfl;refine .cons ⟨t,by simpa using e⟩ (ih l (st+1) (by simpa using hl) λi w' e'=>?_);obtain⟨t',e''⟩:=hw (i+1) w' (by simpa using e');exact⟨t',by rw[e''];congr 2;omega⟩
  rw[List.range_eq_range'];refine go j.toNat acc'.toList 0 hlen λi w e'=>?_;obtain⟨t,rfl⟩:=lg.2 i w (by simpa using e');exact⟨t,by rw[Int.mul_one,C9]⟩
 refine⟨.ref s.heap.objs.size,_,I.laid (o:=.lst ((List.range j.toNat).map λk=>V.int (0+(k:Nat)))) hk (O1 _) ?_,rfl,k _ I.fresh⟩;refine⟨by rw[Y0,t8,M3];omega,acc'.toList,c',hv,?_⟩;simpa using hS'
theorem zO{p3 p4:Pos}(T:Bt X.mg)(ha:PD X m1 a f)(hc:X.calm=true:=by rfl)(hg:X.env.kindOf "list"=some .globalImplicit:=by kernel_rfl)(Lf:X.env.kindOf "range"=some .globalImplicit:=by kernel_rfl)(hs:Zb a=true:=by rfl):ze X m (.Call (.Name "list" p) [.Call (.Name "range" p3) [a] [] p4] [] pos) (za Vl f):=
 PE.of (To (yO hc) hg T.list (by decide +kernel) (jd (To xO Lf T.range Zaf (jd ha.h Sd (Gd hs)) (by decide) (by decide) (Pc hs) rfl) Sd (Gd rfl)) (by decide) (by decide) (Pc rfl) rfl) λσ H Q Ca=>Cb Ca λBF BH F env L ds S e q=>by
  unfold za at e;split at e
  .rename_i y h1;refine⟨BF,BH,F,env,L,y,S,h1,λv F' H' z r1=>?_⟩;unfold Vl at e;split at e
   .rename_i j;split at e
    .rename_i hj;cases e;refine⟨j,by rw[pd r1],λq1 FY=>⟨q1,j,rfl,Lb,hj.1,hj.2,λl hl=>?_⟩⟩;have tE:l≠q1:=λe=>by rw[e,Lb]at hl;cases hl
     rw[rb tE]at hl;have y1:=z.trans (Ext.own (o:=HO.rng 0 j) z.fh FY);have rf:upd H' q1 (.rng 0 j) l=none:=by rw[rb tE];exact hl
     obtain⟨y2,h0,h2,s⟩:=rm (m:=m) S y1 rf (HO.lst ((List.range j.toNat).map λk=>V.int (0+(k:Nat))));refine q l _ F' _ y2 h0 Lb h2 ?_;have e:cc 0 j.toNat=((List.range j.toNat).map λk=>(0+(k:Nat):Int)).map D.int:=by simp[cc]
     have e2:((List.range j.toNat).map λk=>V.int (0+(k:Nat)))=((List.range j.toNat).map λk=>(0+(k:Nat):Int)).map V.int:=by simp
     rw[e,e2];exact Ba.ints _
    .cases e
   .cases e
  .cases e
theorem AO{env:Env}{d:D}(h:za Vl f env=some d):∃ds,d=.lst ds:=by
 unfold za at h;split at h
 .unfold Vl at h;split at h
  .split at h
   .cases h;exact⟨_,rfl⟩
   .cases h
  .cases h
 .cases h
theorem BO{p3 p4:Pos}(T:Bt X.mg)(ha:PD X m1 a f)(hc:X.calm=true:=by rfl)(hg:X.env.kindOf "list"=some .globalImplicit:=by kernel_rfl)(Lf:X.env.kindOf "range"=some .globalImplicit:=by kernel_rfl)(hs:Zb a=true:=by rfl):PD X m (.Call (.Name "list" p) [.Call (.Name "range" p3) [a] [] p4] [] pos) (za Vl f):=(zO T ha hc hg Lf hs).d λenv d h=>AO h
theorem uE(hu:X.A.units+64<cLine){p3:Pos}(ha:PD X m1 a f)(hb:PD X m2 b g)(Sc:Zb b=true:=by rfl)(gf:attributeBase a "index" X.env (eval a X.env)=eval a X.env:=by rfl)(jf:(p2.endLine==p3.line)=true:=by rfl):PD X m (.Call (.Attribute a "index" p2) [b] [] p3) (De Gu f g):=
 PD.mk<|PE.of (Ek m4 j9 PySem.F.type_list_index (DN hu) ha.r.h (jd hb.r.h Sd (Gd Sc)) gf (by rw[Kj (Lj Sc)];rfl) jf (Pc Sc) rfl) λσ H Q Ca=>Cb Ca λBF BH F env L d S e q=>by
  unfold De at e;split at e
  .rename_i x y h1 h2;unfold Gu at e;split at e
   .rename_i ys;split at e
    .rename_i hd;split at e
     .rename_i j hj;cases e;refine⟨BF,BH,F,env,L,_,S,h1,λv F1 H1 z1 r1=>⟨?_,BF,BH,F1,env,L,y,S.ext z1,h2,λw F2 H2 z2 r2=>⟨y,w,ys,j,rfl,Rep.mono z2.hh _ _ r1,r2,hd,hj,q _ F2 H2 (z1.trans z2) (by simp[Rep])⟩⟩⟩;have r1':=r1;simp only[Rep,ye]at r1';obtain⟨p,vs,rfl,hs,_⟩:=r1';exact .inl ⟨rfl,vs,hs⟩
     .cases e
    .cases e
   .cases e
  .cases e
end
noncomputable def Pj(xs:Array Nat):Prop:=∀i j (hi:i<xs.size) (hj:j<xs.size),i<j->xs[i]<xs[j]
theorem DO{xs:Array Nat}{j:Nat}(hr:Pj xs):∀(fuel lo hi:Nat),hi<=xs.size->hi-lo<2^fuel->lo<=hi->(∀i (h:i<xs.size),i<lo->xs[i]<j)->(∀i (h:i<xs.size),hi<=i->j<=xs[i])->SetTable.below.go xs j fuel lo hi<=xs.size/\(∀i (h:i<xs.size),i<SetTable.below.go xs j fuel lo hi->xs[i]<j)/\(∀i (h:i<xs.size),SetTable.below.go xs j fuel lo hi<=i->j<=xs[i]):=by
 intro fuel;induction fuel with
 |zero=>
  intro lo hi h1 h2 h3 a b;have:hi=lo:=by simp at h2;omega
  subst this;unfold SetTable.below.go;exact⟨h1,a,b⟩
 |succ fuel ih=>
  intro lo hi h1 h2 h3 a b;unfold SetTable.below.go;by_cases Wa:lo<hi
  .rw[Q1 Wa];have hm:(lo+hi)/2<xs.size:=by omega
   have e:xs.getD ((lo+hi)/2) j=xs[(lo+hi)/2]:=by simp[Array.getD,hm]
   dsimp only;rw[e];have hp:2^(fuel+1)=2^fuel*2:=q8 ..;by_cases hc:xs[(lo+hi)/2]<j
   .rw[Q1 hc];refine ih _ hi h1 (by omega) (by omega) (λi h Eo=>?_) b;rcases l3 i ((lo+hi)/2)with h5|h5
    .exact F9 (hr i _ h hm h5) hc
    .have:i=(lo+hi)/2:=by omega
     subst this;exact hc
   .rw[B2 hc];refine ih lo _ (by omega) (by omega) (by omega) a (λi h Eo=>?_);rcases l3 ((lo+hi)/2) i with h5|h5
    .have:=hr _ i hm h h5;omega
    .have:i=(lo+hi)/2:=by omega
     subst this;omega
  .rw[B2 Wa];have:lo=hi:=by omega
   subst this;exact⟨h1,a,b⟩
theorem lz{xs:Array Nat}(hr:Pj xs)(j:Nat):SetTable.below xs j<=xs.size/\(∀i (h:i<xs.size),i<SetTable.below xs j->xs[i]<j)/\(∀i (h:i<xs.size),SetTable.below xs j<=i->j<=xs[i]):=by unfold SetTable.below;refine DO hr xs.size 0 xs.size (O1 _) ?_ (V3 _) (λi h h'=>by omega) (λi h h'=>by omega);have:=Nat.lt_two_pow_self (n:=xs.size);omega
theorem EO{xs:Array Nat}(hr:Pj xs){k:Nat}(hk:k<xs.size):SetTable.below xs (xs[k]+1)=k+1:=by
 obtain⟨h1,h2,h3⟩:=lz hr (xs[k]+1);generalize SetTable.below xs (xs[k]+1)=p at h1 h2 h3;rcases r8 p (k+1)with h|h|h
 .have:=h3 k hk (by omega);omega
 .exact h
 .have h4:=h2 (k+1) (by omega) h;have:=hr k (k+1) hk (by omega) (by omega);omega
theorem FO{xs:Array Nat}(hr:Pj xs):SetTable.below xs 0=0:=by
 obtain⟨h1,h2,h3⟩:=lz hr 0;generalize SetTable.below xs 0=p at h1 h2 h3;rcases Zal p with h|h
 .exact h
 .have:=h2 0 (by omega) h;omega
theorem GO{xs:Array Nat}(hr:Pj xs){j:Nat}(hj:xs[SetTable.below xs j]?≠some j):Pj (SetTable.insertAt xs (SetTable.below xs j) j):=by
 obtain⟨h1,h2,h3⟩:=lz hr j;generalize SetTable.below xs j=p at h1 h2 h3 hj;have h4:∀i (h:i<xs.size),p<=i->j<xs[i]:=λi h hp=>by
  rcases l3 p i with h5|h5
  .have h6:=h3 p (by omega) (O1 _);have:=hr p i (by omega) h h5;omega
  .have e:i=p:=by omega
   subst e;have:=h3 i h (O1 _);rw[i6 h]at hj;have:xs[i]≠j:=λe=>hj (by rw[e]);omega
 have sz:(SetTable.insertAt xs p j).size=xs.size+1:=by unfold SetTable.insertAt;simp;omega
 have ent:∀i (h:i<xs.size+1),(SetTable.insertAt xs p j)[i]'(by rw[sz];exact h)=if hh:i<p then xs[i]else if h':i=p then j else xs[i-1]:=by
  intro i h;unfold SetTable.insertAt;simp only[Array.getElem_append,Array.size_push,Array.size_extract,Array.getElem_push,Array.getElem_extract];split
  .rename_i ha;split
   .rename_i hb;rw[M8 (by omega)];simp
   .rename_i hb;rw[M7 (by omega),M8 (by omega)]
  .rename_i ha;rw[M7 (by omega),M7 (by omega)];congr 1;omega
 intro a b ha hb Ph;rw[sz]at ha hb;rw[ent a ha,ent b hb];by_cases a1:a<p
 .rw[M8 a1];by_cases b1:b<p
  .rw[M8 b1];exact hr a b (by omega) (by omega) Ph
  .rw[M7 b1];by_cases b2:b=p
   .rw[M8 b2];exact h2 a (by omega) a1
   .rw[M7 b2];exact hr a (b-1) (by omega) (by omega) (by omega)
 .rw[M7 a1,M7 (show ¬b<p by omega),M7 (show ¬b=p by omega)];by_cases a2:a=p
  .rw[M8 a2];exact h4 (b-1) (by omega) (by omega)
  .rw[M7 a2];exact hr (a-1) (b-1) (by omega) (by omega) (by omega)
theorem vE{t:SetTable}{j:Nat}(h:t.slot j=.empty\/t.slot j=.dummy):t.place[SetTable.below t.place j]?≠some j:=λe=>by unfold SetTable.slot at h;dsimp only at h;rw[e]at h;simp at h
theorem JO{t:SetTable}{hashAt:Nat->Int}{h:Int}:∀(fuel:Nat) (p:SetTable.Probe) (j:Nat) (d:Option Nat),(∀x,p.dummy=some x->t.slot x=.dummy)->SetTable.probe.go t hashAt h fuel p=some (.empty j d)->t.place[SetTable.below t.place (d.getD j)]?≠some (d.getD j):=by
 intro fuel;induction fuel with
 |zero=>intro p j d hd e;unfold SetTable.probe.go at e;cases e
 |succ fuel ih=>
  intro p j d hd e;unfold SetTable.probe.go at e;have wE:∀q:SetTable.Probe,(t.advance q).dummy=q.dummy:=λq=>by unfold SetTable.advance;split<;>rfl
  split at e
  .rename_i hs;injection e with e;injection e with e1 e2;subst e1;subst e2;cases hq:p.dummy with
   |none=>exact vE (.inl hs)
   |some x=>exact vE (.inr (hd x hq))
  .rename_i hs;refine ih _ _ _ (λx hx=>?_) e;rw[wE]at hx;injection hx with hx;subst hx;exact hs
  .split at e
   .injection e with e;cases e
   .refine ih _ _ _ (λx hx=>?_) e;rw[wE]at hx;exact hd x hx
theorem KO{t:SetTable}{h:Int}{j:Nat}{b:Bool}(e:t.freeSlot h=some (j,b)):t.place[SetTable.below t.place j]?≠some j:=by
 unfold SetTable.freeSlot at e;split at e
 .rename_i j' d hp;injection e with e;injection e with e1 e2;subst e1;exact JO _ _ _ _ (λx hx=>by simp[SetTable.probeStart]at hx) hp
 .cases e
structure TabOk(led:Bool)(t:SetTable):Prop where
 led:t.led=led
 yE:t.plain=true->Pj t.place
theorem LO(led:Bool)(a b:Nat):TabOk led (.fresh a b led):=⟨rfl,λ_ i j hi hj _=>by simp[SetTable.fresh]at hi⟩
theorem TabOk.stand{led:Bool}{t:SetTable}(h:TabOk led t)(n:Nat):TabOk led (t.standIn n):=⟨h.led,λe=>by simp[SetTable.standIn]at e⟩
theorem TabOk.lay{led:Bool}{t:SetTable}(h:TabOk led t)(es:Array (Int×Value))(k:Int)(x:Value):TabOk led (layNew t es k x).2.1:=by
 unfold layNew;split
 .rename_i slot wd he;have:TabOk led (t.put slot).1:=⟨h.led,λe=>GO (h.yE e) (KO he)⟩
  dsimp only;unfold SetTable.orStandIn;split
  .exact this
  .exact this.stand _
 .exact h.stand _
theorem MO{l:List Nat}(h:l.Pairwise (·<·)):Pj l.toArray:=λi j hi hj Ge=>by simp only[R1]at hi hj;simp only[Z7];exact e6.mp h i j hi hj Ge
theorem TabOk.NO{led:Bool}{t:SetTable}(h:TabOk led t)(es:Array (Int×Value))(n:Nat):TabOk led (relayAll t es n).2.1:=by
 unfold relayAll;split
 .rename_i t' order he;dsimp only;split
  .unfold SetTable.relaid SetTable.laid at he;cases ho:SetTable.layClean (SetTable.sizeAbove n-1) (es.map (·.1))with
   |none=>rw[ho]at he;cases he
   |some owner=>rw[ho]at he;injection he with he;injection he with h1 h2;subst h1;refine⟨h.led,λ_=>MO ?_⟩;rw[List.map_filterMap];refine(Q7 (n:=SetTable.sizeAbove n-1+1)).filterMap _ λa a' GY b hb b' Kl=>?_;simp only[Option.map_map,Option.mem_def,v6]at hb Kl;obtain⟨_,_,rfl⟩:=hb;obtain⟨_,_,rfl⟩:=Kl;exact GY
  .exact h.stand _
 .exact h.stand _
noncomputable def Pp:Value->Int
 |.int i _=>i
 |_=>0
noncomputable def isI:Value->Prop
 |.int _ _=>True
 |_=>False
theorem Sk{vs:P0}{ns:K0}:IntsAre vs ns↔(∀v∈vs,isI v)/\ns=vs.map Pp:=by
 constructor
 .intro h;induction h with
  |nil=>simp
  |cons n t _ ih=>exact⟨λv hv=>(T1.mp hv).elim (λe=>e▸trivial) (ih.1 v),by simp[Pp,ih.2]⟩
 .rintro⟨h,rfl⟩;induction vs with
  |nil=>exact .nil
  |cons v vs ih=>
   have h1:=h v W1;cases v with
   |int i t=>exact .cons i t (ih λv hv=>h v (M1 _ hv))
   |_=>exact h1.elim
theorem mz{vs vs':P0}{ns:K0}(p:vs'.Perm vs)(h:IntsAre vs ns):∃ns',IntsAre vs' ns'/\ns'.Perm ns:=by rw[Sk]at h;exact⟨vs'.map Pp,Sk.mpr ⟨λv hv=>h.1 v (p.mem_iff.mp hv),rfl⟩,h.2▸p.map _⟩
theorem OO{vs:P0}{ns:K0}(h:IntsAre vs ns){k:Int}:k∈ns↔∃v∈vs,Value.isInt k v=true:=by
 rw[Sk]at h;rw[h.2,U1];constructor
 .rintro⟨v,hv,e⟩;have:=h.1 v hv;cases v with
  |int i t=>exact⟨_,hv,by simp[Pp]at e;simp[Value.isInt,e]⟩
  |_=>exact this.elim
 .rintro⟨v,hv,e⟩;obtain⟨t,rfl⟩:=Zav e;exact⟨_,hv,rfl⟩
section
variable{prog:Program}{w:World}{A:Around}{E:N0}{s:Shared}
structure Tk(prog:Program)(w:World)(led:Bool)(ks:K0)(o:Obj)(es:Array (Int×Value))(ep:Nat)(t:SetTable):Prop where
 ex:o.ExactSet
 dat:o.data=.set es ep t
 el:ElemsOf (intKind prog w) es.toList
 ks:∃js,IntsAre (es.toList.map (·.2)) js/\js.Perm ks
 few:es.size<scanBound
 fit:t.fits es.size=true
 ok:TabOk led t
noncomputable def Gh(prog:Program)(w:World)(h:Heap)(a:Addr)(led:Bool)(ks:K0):Prop:=∃o es ep t,h.get? a=some o/\Tk prog w led ks o es ep t
theorem Tk.len{led:Bool}{ks:K0}{o:Obj}{es:Array (Int×Value)}{ep:Nat}{t:SetTable}(h:Tk prog w led ks o es ep t):es.size=ks.length:=by obtain⟨js,h1,h2⟩:=h.ks;have:=(Sk.mp h1).2;rw[<-h2.length_eq,this];simp
theorem Tk.mem{led:Bool}{ks:K0}{o:Obj}{es:Array (Int×Value)}{ep:Nat}{t:SetTable}(h:Tk prog w led ks o es ep t){k:Int}:k∈ks↔∃e∈es.toList,(intKind prog w).is k e.2=true:=by
 obtain⟨js,h1,h2⟩:=h.ks;rw[<-h2.mem_iff,OO h1];constructor
 .rintro⟨v,hv,e⟩;obtain⟨p,hp,rfl⟩:=U1.mp hv;exact⟨p,hp,e⟩
 .rintro⟨p,hp,e⟩;exact⟨p.2,U1.mpr ⟨p,hp,rfl⟩,e⟩
theorem zE{a:Addr}{led:Bool}{ks ks':K0}{o:Obj}{es es':Array (Int×Value)}{ep:Nat}{t t':SetTable}{Q:Unit->Shared->Prop}(ho:s.heap.get? a=some o)(h:Tk prog w led ks o es ep t)(el:ElemsOf (intKind prog w) es'.toList)(hk:∃js,IntsAre (es'.toList.map (·.2)) js/\js.Perm ks')(few:es'.size<scanBound)(fit:t'.fits es'.size=true)(ok:TabOk led t')(k:∀h' o',Heap.SameBut a s.heap h'->h'.get? a=some o'->Tk prog w led ks' o' es' (ep+1) t'->Q () { s with heap:=h' }):wpAny (model prog w) A (storeSet a es' t') Q E s:=by
 refine wpAny_storeSet_of ho h.dat ?_ (p8 few);have hg:(s.heap.update a (Obj.putSet es' t')).get? a=some { o with data:=.set es' (ep+1) t' }:=by have:=G4 (Obj.putSet es' t') ho (by rw[putSet_of es' t' h.dat];rfl);rw[putSet_of es' t' h.dat]at this;exact this
 exact k _ _ (i5 s.heap a _) hg ⟨h.ex,rfl,el,hk,few,fit,ok⟩
theorem QO{a:Addr}{led:Bool}{ks:K0}{k:Int}{tk:Tok}{Q:Bool->Shared->Prop}(hS:Gh prog w s.heap a led ks)(room:ks.length+1<scanBound)(h:∀h' b,Heap.SameBut a s.heap h'->Gh prog w h' a led (wf ks k)->Q b { s with heap:=h' }):wpAny (model prog w) A (setAddHashed a (.int k tk) ((intKind prog w).hash k)) Q E s:=by
 obtain⟨o,es,ep,t,ho,S⟩:=hS;have yx:(intKind prog w).is k (.int k tk)=true:=intKind_is _ _ _ _;have same:s={ s with heap:=s.heap }:=by cases s;rfl
 unfold setAddHashed setAddHashedIn;refine Y3 (X0 (o6 ho S.dat S.fit ?_));dsimp only;rw[byScan_of (x:=.int k tk) rfl S.few S.el];simp only[↓reduceIte];unfold setAddByScan;refine X0 (X0 (N8 (X0 (wpAny_setScan_of yx ho S.dat S.fit S.el ?_))));cases hr:List.findIdx? (λe=>(intKind prog w).is k e.2) es.toList with
 |some j=>obtain⟨hj,zx,_⟩:=List.findIdx?_eq_some_iff_getElem.mp hr;have hm:k∈ks:=S.mem.mpr ⟨_,N3 hj,zx⟩;refine G1 (G1 ?_);rw[same];exact h s.heap _ (Heap.SameBut.refl a s.heap) ⟨o,es,ep,t,ho,by unfold wf;rw[Q1 hm];exact S⟩
 |none=>
  have hm:k∉ks:=λhm=>by obtain⟨e,he,hp⟩:=S.mem.mp hm;have:=List.findIdx?_eq_none_iff.mp hr e he;rw[hp]at this;cases this
  dsimp only;have p1:=layNew_perm t es ((intKind prog w).hash k) (.int k tk);have f1:=layNew_fits t es ((intKind prog w).hash k) (.int k tk);have o1:=S.ok.lay es ((intKind prog w).hash k) (.int k tk);generalize layNew t es ((intKind prog w).hash k) (.int k tk)=Z at p1 f1 o1 |-;obtain⟨es1,t1,wd,gv⟩:=Z;dsimp only at p1 f1 o1 |-;rw[ZaD]at p1;have el1:ElemsOf (intKind prog w) es1.toList:=(S.el.push yx rfl).perm p1;have k1:∃js,IntsAre (es1.toList.map (·.2)) js/\js.Perm (wf ks k):=by
   obtain⟨js,j1,j2⟩:=S.ks;have q1:IntsAre ((es.toList++[((intKind prog w).hash k,Value.int k tk)]).map (·.2)) (js++[k]):=by
    rw[Sk]at j1 |-;refine⟨λv hv=>?_,by rw[j1.2];simp[Pp]⟩;rw[D3,G2]at hv;rcases hv with hv|hv
    .exact j1.1 v hv
    .simp at hv;subst hv;trivial
   obtain⟨ms,r1,r2⟩:=mz (p1.map (·.2)) q1;refine⟨ms,r1,r2.trans ?_⟩;unfold wf;rw[B2 hm];exact j2.append_right _
  have Dv:es1.size=es.size+1:=by rw[<-R4,p1.length_eq,U2,R4];rfl
  have AE:es1.size<scanBound:=by rw[Dv,S.len];exact room
  have gw:∀(b:Bool) {s₁:Shared} {Q':Unit->Shared->Prop},Q' () s₁->wpAny (model prog w) A (match b with|true=>rule "set.scan.the-table-gave-way"|false=>pure ()) Q' E s₁:=
   λb _ _ hq=>by cases b<;>first|exact G1 hq|exact N8 hq
  refine X0 (gw _ ?_);have last:∀t2:SetTable,t2.fits es1.size=true->TabOk led t2->∀wd:Bool,wpAny (model prog w) A (do
    storeSet a es1 t2
    if(!wd&&t2.tooFull)=true then do
      (match(relayAll t2 es1 (SetTable.grown es1.size)).2.2 with|true=>rule "set.scan.the-table-gave-way"|false=>pure ())
      storeSet a (relayAll t2 es1 (SetTable.grown es1.size)).1 (relayAll t2 es1 (SetTable.grown es1.size)).2.1
      pure (some true)
     else pure (some true)) (λr s'=>wpAny (model prog w) A (match r with|some added=>pure added|none=>setAddHashedIn a (.int k tk) ((intKind prog w).hash k) 99999) Q E s') E s:=by
   intro t2 f2 o2 wd;refine X0 (zE ho S el1 k1 AE f2 o2 λh' o' sb g' S'=>?_);split
   .have p2:=relayAll_perm t2 es1 (SetTable.grown es1.size);have f3:=relayAll_fits t2 es1 (SetTable.grown es1.size);have o3:=o2.NO es1 (SetTable.grown es1.size);generalize relayAll t2 es1 (SetTable.grown es1.size)=Z at p2 f3 o3 |-;obtain⟨es2,t3,AZ⟩:=Z;dsimp only at p2 f3 o3 |-;have Qp:es2.size=es1.size:=by rw[<-R4,p2.length_eq,R4]
    refine X0 (gw _ ?_);refine X0 (zE (ks':=wf ks k) g' S' (el1.perm p2) ?_ (by rw[Qp];exact AE) f3 o3 λh2 o2 RO g2 S2=>?_)
    .obtain⟨js,j1,j2⟩:=k1;obtain⟨ms,r1,r2⟩:=mz (p2.map (·.2)) j1;exact⟨ms,r1,r2.trans j2⟩
    .exact G1 (G1 (h _ _ (sb.trans RO) ⟨_,_,_,_,g2,S2⟩))
   .exact G1 (G1 (h _ _ sb ⟨_,_,_,_,g',S'⟩))
  split
  .refine X0 ?_;rw[hashByValue_scannable 8 (x:=.int k tk) rfl];refine G1 ?_;exact last _ (by simp only[plainKind,↓reduceIte];exact f1) (by simp only[plainKind,↓reduceIte];exact o1) wd
  .refine X0 (G1 ?_);simp only[↓reduceIte];exact last _ f1 o1 wd
end
theorem Rp:Slot "set_iterator" "__next__" "set_iterator.__next__":=.of (owner:="set_iterator") (n:="__next__") (by rw[typeLookup_type,Q9];kernel_rfl) (by decide +kernel) (by decide +kernel) (by decide +kernel) (by first|exact .inl (by decide +kernel)|exact .inr (by decide +kernel)) (by rw[isSubtype_type];kernel_rfl)
theorem BE:Slot "set_iterator" "__iter__" "set_iterator.__iter__":=.of (owner:="set_iterator") (n:="__iter__") (by rw[typeLookup_type,Q9];kernel_rfl) (by decide +kernel) (by decide +kernel) (by decide +kernel) (by first|exact .inl (by decide +kernel)|exact .inr (by decide +kernel)) (by rw[isSubtype_type];kernel_rfl)
theorem DE:entryFor table "set_iterator.__next__"=some Builtin.«set_iterator.__next__»:=entryFor_of_tree (by kernel_rfl)
theorem SO:entryFor table "set_iterator.__iter__"=some Builtin.«dict_keyiterator.__iter__»:=entryFor_alias (id':="dict_keyiterator.__iter__") (by kernel_rfl) rfl (by decide +kernel) (by kernel_rfl)
theorem EE(a:Value):argsOk "set_iterator.__next__" ⟨[a],[]⟩:=by unfold argsOk;kernel_rfl
theorem UO(a:Value):argsOk "set_iterator.__iter__" ⟨[a],[]⟩:=by unfold argsOk;kernel_rfl
theorem VO:entryFor table "set.__iter__"=some Builtin.«frozenset.__iter__»:=entryFor_alias (id':="frozenset.__iter__") (by kernel_rfl) rfl (by decide +kernel) (by kernel_rfl)
theorem nz{α:Type}:∀(l:List α) (i:Nat) (h:i<l.length),(l[i]::l.eraseIdx i).Perm l
 |[],i,h=>by simp at h
 |x::l,0,_=>by simp
 |x::l,i+1,h=>by
  have h':i<l.length:=by simpa using h
  simp only[List.getElem_cons_succ,D7];exact(List.Perm.swap _ _ _).trans ((nz l i h').cons _)
noncomputable def Re(w:World):Bool:=w.params.followText "set-order"
theorem WO{M:Model}{A:Around}{E:N0}{s:Shared}{src:Source}{n:Nat}{Q:Nat->Shared->Prop}(hn:n≠0)(h:∀i dr,i<n->Q i { s with drawn:=dr }):wpAny M A (choose src n) Q E s:=
 λ_ _ _=>⟨hn,h _ _ (Nat.mod_lt _ (by omega))⟩
theorem YO{α:Type}{M:Model}{A:Around}{E:N0}:∀(n:Nat) (xs:List α) (s:Shared) (Q:List α->Shared->Prop),n=xs.length->(∀ys dr,ys.Perm xs->Q ys { s with drawn:=dr })->wpAny M A (drawOrder n xs) Q E s:=by
 intro n;induction n with
 |zero=>intro xs s Q hn h;have:xs=[]:=l6.mp hn.symm;subst this;unfold drawOrder;exact G1 (h [] s.drawn (.refl _))
 |succ n ih=>
  intro xs s Q hn h;cases xs with
  |nil=>cases hn
  |cons x xs=>unfold drawOrder;refine X0 (WO (by simp) λi dr hi=>?_);rw[E1 hi];refine X0 (ih _ _ _ (by rw[X9,Q1 hi];omega) λys BZ hp=>G1 (h _ _ ?_));exact(hp.cons _).trans (nz _ _ hi)
theorem ZO{α:Type}(next:Nat->Nat):∀(fuel k:Nat) (left:List α) (out:Array α),fuel=left.length->(pickOrder.go next fuel k left out).toList.Perm (out.toList++left):=by
 intro fuel;induction fuel with
 |zero=>intro k left out h;have:left=[]:=l6.mp h.symm;subst this;unfold pickOrder.go;simp
 |succ fuel ih=>
  intro k left out h;unfold pickOrder.go;have hl:next k%left.length<left.length:=Nat.mod_lt _ (by omega)
  rw[E1 hl];refine(ih _ _ _ (by rw[X9,Q1 hl];omega)).trans ?_;rw[ZaD,w6];exact List.Perm.append_left _ (nz _ _ hl)
theorem aP{α:Type}(next:Nat->Nat)(xs:Array α):(pickOrder next xs).toList.Perm xs.toList:=by unfold pickOrder;simpa using ZO next xs.size 0 xs.toList #[] (by simp)
inductive Wk (w:World) (h:Heap) (a:Addr) (es:Array (Int×Value)) (ep:Nat) (t:SetTable):P0->(Nat->Value)->R0->Prop
 |text (hb:Re w=true):Wk w h a es ep t ((pickOrder (w.params.setOrder a ep) es).toList.map (·.2)) (λ_=>rawInt 0) []
 |plain (hb:Re w=false) (hd:(!t.plain&&decide (es.size>1))=false) (hl:t.led=true) (hr:Pj t.place):Wk w h a es ep t (es.toList.map (·.2)) (λi=>rawInt (((if i=0 then 0 else t.place.getD (i-1) 0+1):Nat):Int)) []
 |drawn (hb:Re w=false) (p:Addr) (c:Nat) (pl:List Nat) (hp:pl.Perm (List.range es.size)) (o:Obj) (ho:h.get? p=some o) (hd:o.data=.seq (pl.map λ(j:Nat)=>rawInt j).toArray c) :
   Wk w h a es ep t (pl.map λj=>(es.getD j (0,.none)).2) (λ_=>.ref p) [p]
theorem Wk.perm{w:World}{h:Heap}{a:Addr}{es:Array (Int×Value)}{ep:Nat}{t:SetTable}{ord:P0}{fst:Nat->Value}{ps:R0}(k:Wk w h a es ep t ord fst ps):ord.Perm (es.toList.map (·.2)):=by
 cases k with
 |text hb=>exact(aP _ _).map _
 |plain hb hd hl hr=>exact .refl _
 |drawn hb p c pl hp o ho hd=>
  refine(hp.map _).trans ?_;have:(List.range es.size).map (λj=>(es.getD j (0,.none)).2)=es.toList.map (·.2):=by
   apply C7
   .simp
   .intro i h1 h2;simp at h1;simp[Array.getD,h1]
  rw[this]
theorem Wk.mono{w:World}{h h':Heap}{a:Addr}{es:Array (Int×Value)}{ep:Nat}{t:SetTable}{ord:P0}{fst:Nat->Value}{ps:R0}(k:Wk w h a es ep t ord fst ps)(hk:∀b∈ps,∀o,h.get? b=some o->h'.get? b=some o):Wk w h' a es ep t ord fst ps:=by
 cases k with
 |text hb=>exact .text hb
 |plain hb hd hl hr=>exact .plain hb hd hl hr
 |drawn hb p c pl hp o ho hd=>exact .drawn hb p c pl hp o (hk p (by simp) o ho) hd
noncomputable def bj(h:Heap)(I a:Addr)(f:Value)(i n ep:Nat):Prop:=∃o,h.get? I=some o/\o.cls=.type "set_iterator"/\o.data=.fields #[f,rawInt (i:Nat),.ref a,rawInt (n:Nat),rawInt (ep:Nat)]
theorem bj.ty{s:Shared}{I a:Addr}{f:Value}{i n ep:Nat}(h:bj s.heap I a f i n ep):s.TypeIs (.ref I) "set_iterator":=let ⟨o,ho,hc,_⟩:=h;⟨o,ho,hc⟩
section
variable{prog:Program}{w:World}{A:Around}{E:N0}{s:Shared}
theorem Wk.next{a:Addr}{es:Array (Int×Value)}{ep:Nat}{t:SetTable}{ord:P0}{o:Obj}{i:Nat}{zi:Nat}(ho:s.heap.get? a=some o)(hd:o.data=.set es ep t)(hf:t.fits es.size=true){Q:Option (Value×Nat)->Shared->Prop}(fst:Nat->Value)(k:Wk w s.heap a es ep t ord fst [])(hz:fst i=rawInt (zi:Nat))(hi:i<=es.size)(h:∀zn:Nat,(i<es.size->rawInt zn=fst (i+1))->Q (ord[i]?.map λv=>(v,zn)) s):wpAny (model prog w) A (setNext a zi i ep) Q E s:=by
 have qx:t.place.size=es.size:=by simp only[SetTable.fits,Z2,t5]at hf;exact hf.1
 unfold setNext;refine X0 (o6 ho hd hf ?_);dsimp only;cases k with
 |text hb=>refine X0 (m:=setsByText) (X0 (Y5 (G1 ?_)));rw[Q1 (show(model prog w).w.params.followText "set-order"=true from hb)];rw[B2 (by simp)];unfold setWalk;refine X0 (X0 (o6 ho hd hf ?_));dsimp only;refine X0 (m:=setsByText) (X0 (Y5 (G1 ?_)));rw[Q1 (show(model prog w).w.params.followText "set-order"=true from hb)];refine X0 (Y5 (G1 (G1 ?_)));have:=h zi λ_=>hz.symm;rw[i3]at this;show Q (Option.map (λe=>(e.snd,zi)) (pickOrder (w.params.setOrder a ep) es)[i]?) s;simpa[Option.map_map,L5]using this
 |plain hb Oi hl hr=>
  refine X0 (m:=setsByText) (X0 (Y5 (G1 ?_)));rw[B2 (show ¬(model prog w).w.params.followText "set-order"=true from by rw[show(model prog w).w.params.followText "set-order"=false from hb];simp)];show wpAny _ _ (if(!t.plain&&decide (es.size>1))=true then _ else _) _ _ _;rw[B2 (by rw[Oi];simp)];refine X0 (m:=_) (show wpAny _ _ (if(!t.led&&!es.isEmpty)=true then _ else _) _ _ _ from ?_);rw[B2 (by rw[hl];simp)];refine G1 ?_;have Yt:zi=if i=0 then 0 else t.place.getD (i-1) 0+1:=by
   have:((if i=0 then 0 else t.place.getD (i-1) 0+1:Nat):Int)=zi:=by simpa[rawInt]using hz
   omega
  have bP:SetTable.below t.place zi=i:=by
   rw[Yt];by_cases h0:i=0
   .subst h0;simpa using FO hr
   .have Wa:i-1<t.place.size:=by omega
    rw[B2 h0,show t.place.getD (i-1) 0=t.place[i-1] by simp[Array.getD,Wa],EO hr Wa];omega
  rw[bP];rcases l3 i es.size with Wa|Ax
  .have oJ:i<t.place.size:=by omega
   rw[i6 Wa,i6 oJ];have:=h (t.place[i]+1) λ_=>by simp[rawInt,Array.getD,oJ]
   rw[i3,E1 (by simpa using Wa)]at this;exact G1 (by simpa using this)
  .rw[N9 Ax];have:=h 0 λhh=>by omega
   rw[v5 (by simpa using Ax)]at this;exact G1 (by simpa using this)
end
section
variable{prog:Program}{w:World}{A:Around}{E:N0}{s:Shared}
theorem Ev{h:Heap}{I a:Addr}{f:Value}{i n ep:Nat}(x:bj h I a f i n ep)(j:Nat)(v:Value){f':Value}{i':Nat}(e:(#[f,rawInt (i:Nat),.ref a,rawInt (n:Nat),rawInt (ep:Nat)]:Array Value).setIfInBounds j v=#[f',rawInt (i':Nat),.ref a,rawInt (n:Nat),rawInt (ep:Nat)]):bj (h.update I (Obj.mapFields (·.setIfInBounds j v))) I a f' i' n ep:=by obtain⟨o,ho,hc,hd⟩:=x;exact⟨_,G4 _ ho (T5 (u5 hd _)),(Zax ..).trans hc,by rw[u5 hd,e]⟩
theorem cP{I a:Addr}{es:Array (Int×Value)}{ep:Nat}{t:SetTable}{ord:P0}{fst:Nat->Value}{ps:R0}{o:Obj}{i:Nat}{Q:Option Value->Shared->Prop}(hit:bj s.heap I a (fst i) i es.size ep)(ho:s.heap.get? a=some o)(hd:o.data=.set es ep t)(hf:t.fits es.size=true)(ic:a≠I)(k:Wk w s.heap a es ep t ord fst ps)(Ll:I∉ps)(hi:i<es.size)(hQ:∀v h',ord[i]?=some v->bj h' I a (fst (i+1)) (i+1) es.size ep->Heap.SameBut I s.heap h'->Q (some v) { s with heap:=h' }):wpAny (model prog w) A (pyNext (.ref I)) Q E s:=by
 obtain⟨oi,Fo,dP,Go⟩:=id hit;have Nq:ord.length=es.size:=by rw[k.perm.length_eq];simp
 unfold pyNext;refine X0 (i7 (m7 (name:=Str.ofString "__next__") hit.ty Rp (O5 Rp hit.ty DE ?_ (EE _))));show wpAny _ _ (fieldsOf (.ref I) >>= _) _ _ s;refine X0 (wpAny_fieldsOf Fo Go ?_);dsimp only;show wpAny _ _ (setEntries a >>= _) _ _ s;refine X0 (c8 ho hd hf ?_);rw[B2 (by simp)];have main:∀(E':N0) (zi:Nat),fst i=rawInt (zi:Nat)->Wk w s.heap a es ep t ord fst []->wpAny (model prog w) A.in1 (do
   match <-setNext a zi i ep with
   |some (x,next)=>
    setField (.ref I) 0 (rawInt next)
    setField (.ref I) 1 (rawInt ((i:Int)+1))
    ret x
   |none=>setField (.ref I) 2 .none;raiseNew (<-newExc (.type "StopIteration") [])) (λfin s'=>∃v,fin=.done (.ret v)/\wpAny (model prog w) A (pure (some v)) Q E s') E' s:=by
  intro E' zi hz k0;refine X0 (Wk.next ho hd hf fst k0 hz (by omega) λzn FE=>?_);rw[E1 (by omega)];show wpAny _ _ (setField (.ref I) 0 (rawInt zn) >>= _) _ _ s;refine X0 (a5 Fo Go (by simp) ?_);have h1:=Ev (i':=i) hit 0 (rawInt (zn:Nat)) (f':=rawInt (zn:Nat)) (by simp);obtain⟨o1,g1,c1,d1⟩:=id h1;refine X0 (a5 g1 d1 (by simp) (G1 ⟨_,rfl,G1 (hQ _ _ (by rw[E1 (by omega)]) ?_ ((i5 ..).trans (i5 ..)))⟩));rw[<-FE hi];exact Ev h1 1 _ (by simp[rawInt])
 cases k with
 |text hb=>exact main _ 0 rfl (.text hb)
 |plain hb Oi hl hr=>exact main _ _ rfl (.plain hb Oi hl hr)
 |drawn hb p c pl hp op HB IB=>
  show wpAny _ _ (seqItems? (.ref p) >>= _) _ _ s;refine X0 (wpAny_seqItems HB IB ?_);have Xe:pl.length=es.size:=by rw[hp.length_eq];simp
  have hj:pl[i]'(by omega)<es.size:=by have:=hp.mem_iff.mp (N3 (l:=pl) (n:=i) (by omega));simpa using this
  have e1:((pl.map λ(j:Nat)=>rawInt j).toArray)[(i:Int).toNat]?=some (.int (pl[i]'(by omega):Nat) 0):=by simp[rawInt,Xe,hi]
  dsimp only;rw[e1];dsimp only;unfold setNextDrawn;refine X0 (X0 (o6 ho hd hf ?_));dsimp only;rw[B2 (by simp)];rw[show((pl[i]'(by omega):Nat):Int).toNat=pl[i]'(by omega) by simp,i6 hj];refine G1 ?_;refine X0 (a5 Fo Go (by simp) (G1 ⟨_,rfl,G1 (hQ _ _ ?_ ?_ (i5 ..))⟩))
  .simp[Xe,hi,Array.getD,hj]
  .exact Ev hit 1 _ (by simp[rawInt])
theorem HE{Q:Option Value->Shared->Prop}(hh:A.handled=none)(h:∀h',(∀b o,s.heap.get? b=some o->h'.get? b=some o)->Q none { s with heap:=h' }):
  wpAny (model prog w) A.in1 (do raiseNew (<-newExc (.type "StopIteration") []):Sem PySem.Fin) (λfin s'=>∃v,fin=.done (.ret v)/\wpAny (model prog w) A (pure (some v)) Q E s')
   (λe s'=>wpAny (model prog w) A (do if <-isInstance e (.type "StopIteration")then pure none else throw e) Q E s') s:=by
 refine X0 ?_;simp only[newExc,newTuple];refine X0 (E4 ?_ (by size_fits));refine X0 (m:=firstArgMember _ _) (wpAny_of_eq (a:=Value.none) (by first|rfl|(simp only[firstArgMember];rfl)) (E4 ?_ (by size_fits)));simp only[raiseNew];refine X0 (wpAny_handled ?_);rw[show A.in1.handled=none from hh];refine X0 (G1 (wpAny_throw ?_));refine X0 (wpAny_isInstance (b:=true) (T:="StopIteration") ⟨_,Z1 _ rfl,rfl⟩ isSubtype_stop ?_);exact G1 (h _ λb o e=>B1 _ (B1 _ e))
theorem fP{I a:Addr}{es:Array (Int×Value)}{ep:Nat}{t:SetTable}{ord:P0}{fst:Nat->Value}{ps:R0}{o:Obj}{Q:Option Value->Shared->Prop}(hh:A.handled=none)(hit:bj s.heap I a (fst es.size) es.size es.size ep)(ho:s.heap.get? a=some o)(hd:o.data=.set es ep t)(hf:t.fits es.size=true)(k:Wk w s.heap a es ep t ord fst ps)(hQ:∀h',Heap.ExtBut I s.heap h'->Q none { s with heap:=h' }):wpAny (model prog w) A (pyNext (.ref I)) Q E s:=by
 obtain⟨oi,Fo,dP,Go⟩:=id hit;have Nq:ord.length=es.size:=by rw[k.perm.length_eq];simp
 unfold pyNext;refine X0 (i7 (m7 (name:=Str.ofString "__next__") hit.ty Rp (O5 Rp hit.ty DE ?_ (EE _))));show wpAny _ _ (fieldsOf (.ref I) >>= _) _ _ s;refine X0 (wpAny_fieldsOf Fo Go ?_);dsimp only;show wpAny _ _ (setEntries a >>= _) _ _ s;refine X0 (c8 ho hd hf ?_);rw[B2 (by simp)];have main:∀(zi:Nat),fst es.size=rawInt (zi:Nat)->Wk w s.heap a es ep t ord fst []->wpAny (model prog w) A.in1 (do
   match <-setNext a zi es.size ep with
   |some (x,next)=>
    setField (.ref I) 0 (rawInt next)
    setField (.ref I) 1 (rawInt ((es.size:Int)+1))
    ret x
   |none=>setField (.ref I) 2 .none;raiseNew (<-newExc (.type "StopIteration") [])) (λfin s'=>∃v,fin=.done (.ret v)/\wpAny (model prog w) A (pure (some v)) Q E s')
    (λe s'=>wpAny (model prog w) A (do if <-isInstance e (.type "StopIteration")then pure none else throw e) Q E s') s:=by
  intro zi hz k0;refine X0 (Wk.next ho hd hf fst k0 hz (O1 _) λzn FE=>?_);rw[v5 (by omega)];show wpAny _ _ (setField (.ref I) 2 .none >>= _) _ _ s;refine X0 (a5 Fo Go (by simp) ?_);exact HE hh λh' hk=>hQ h' λb o hb e=>hk b o ((i5 s.heap I _).extBut b o hb e)
 cases k with
 |text hb=>exact main 0 rfl (.text hb)
 |plain hb Oi hl hr=>exact main _ rfl (.plain hb Oi hl hr)
 |drawn hb p c pl hp op HB IB=>
  show wpAny _ _ (seqItems? (.ref p) >>= _) _ _ s;refine X0 (wpAny_seqItems HB IB ?_);have Xe:pl.length=es.size:=by rw[hp.length_eq];simp
  have e1:((pl.map λ(j:Nat)=>rawInt j).toArray)[(es.size:Int).toNat]?=none:=by simp[Xe]
  dsimp only;rw[e1];dsimp only;refine X0 (a5 Fo Go (by simp) ?_);have h1:=Ev (i':=es.size) hit 0 (rawInt 0) (f':=rawInt 0) (by simp);obtain⟨o1,g1,c1,d1⟩:=id h1;refine X0 (a5 g1 d1 (by simp) ?_);exact HE hh λh' hk=>hQ h' λb o hb e=>hk b o (((i5 s.heap I _).trans (i5 _ I _)).extBut b o hb e)
theorem gP{I a:Addr}{f:Value}{i n ep:Nat}{Q:N0}(hit:bj s.heap I a f i n ep)(h:Q (.ref I) s):wpAny (model prog w) A (pyIter (.ref I)) Q E s:=by refine Zap hit.ty BE (O5 BE hit.ty SO ?_ (UO _));show wpAny _ _ (ret (.ref I)) _ _ s;exact G1 ⟨_,rfl,"set_iterator",_,hit.ty,Rp.lookup,h⟩
end
section
variable{prog:Program}{w:World}{A:Around}{E:N0}{s:Shared}
theorem iP(hh:A.handled=none){I a:Addr}(ic:a≠I){es:Array (Int×Value)}{ep:Nat}{t:SetTable}{ord:P0}{fst:Nat->Value}{ps:R0}(Ll:I∉ps){o:Obj}(hd:o.data=.set es ep t)(hf:t.fits es.size=true):WalksS prog w A I (I::a::ps) [I] (λa b=>b=a) es.size (λi v=>ord[i]?=some v) (λi s=>bj s.heap I a (fst i) i es.size ep/\s.heap.get? a=some o/\Wk w s.heap a es ep t ord fst ps) where
 sub:=λb hb=>by simp at hb;simp[hb]
 grefl:=λ_=>rfl
 gtrans:=λ_ _ _ h1 h2=>h2.trans h1
 frame:=λi s h' tk st _ hk=>⟨let ⟨oi,h1,h2⟩:=st.1;⟨oi,hk I (by simp) _ h1,h2⟩,hk a (by simp) _ st.2.1,st.2.2.mono λb hb=>hk b (by simp[hb])⟩
 item:=λi s Q E hi st hQ=>cP st.1 st.2.1 hd hf ic st.2.2 Ll hi λv h' hv HY sb=>
  hQ v _ hv ⟨HY,sb.extBut a _ ic st.2.1,st.2.2.mono λb hb o e=>sb.extBut b o (λe=>Ll (e▸hb)) e⟩ ⟨λb o hb e=>sb.extBut b o (λh=>hb (by simp[h])) e,rfl,rfl,rfl,O1 _⟩
 done:=λs Q E st hQ=>fP hh st.1 st.2.1 hd hf st.2.2 λh' he=>hQ _ ⟨λb o hb e=>he b o (λh=>hb (by simp[h])) e,rfl,rfl,rfl,O1 _⟩
 self:=λi s Q E st hQ=>gP st.1 hQ
theorem jP{xs:Array Nat}(h:xs.size<=1):Pj xs:=λi j hi hj Ge=>by omega
theorem kP{a:Addr}{led:Bool}{ks:K0}{o:Obj}{es:Array (Int×Value)}{ep:Nat}{t:SetTable}(ho:s.heap.get? a=some o)(S:Tk prog w led ks o es ep t):s.TypeIs (.ref a) "set":=⟨o,ho,S.ex.1⟩
theorem lP{a:Addr}{ks:K0}{o:Obj}{es:Array (Int×Value)}{ep:Nat}{t:SetTable}{Q:N0}(ho:s.heap.get? a=some o)(S:Tk prog w (!Re w) ks o es ep t)(h:∀h' dr I ord fst ps,(∀b o,s.heap.get? b=some o->h'.get? b=some o)->(∀b∈I::ps,s.heap.objs.size<=b)->I∉ps->bj h' I a (fst 0) 0 es.size ep->Wk w h' a es ep t ord fst ps->Q (.ref I) { s with heap:=h',drawn:=dr }):wpAny (model prog w) A (pyIter (.ref a)) Q E s:=by
 have hT:=kP ho S;have hsz:es.size<=sizeLine:=p8 S.few;have qx:t.place.size=es.size:=by have:=S.fit;simp only[SetTable.fits,Z2,t5]at this;exact this.1
 refine Zap hT F.slot_set_iter (O5 F.slot_set_iter hT VO ?_ (F.args_set_iter_1 _));show wpAny _ _ (Builtin.Frozenset.sizeOf a >>= _) _ _ s;unfold Builtin.Frozenset.sizeOf;refine X0 (X0 (c8 ho S.dat S.fit (G1 ?_)));unfold setDrawn;refine X0 (X0 (o6 ho S.dat S.fit ?_));dsimp only;refine X0 (m:=setsByText) (X0 (Y5 (G1 (G1 ?_))));show wpAny _ _ (if(!Re w&&(!t.plain&&decide (es.size>1)))=true then _ else _) _ _ s;have fin:∀(f:Value) (s1:Shared) (dr) (ord fst ps),s1={ s with heap:=s1.heap,drawn:=dr }->(∀b o,s.heap.get? b=some o->s1.heap.get? b=some o)->s.heap.objs.size<=s1.heap.objs.size->(∀b∈ps,s.heap.objs.size<=b/\b<s1.heap.objs.size)->
   Wk w s1.heap a es ep t ord fst ps->f=fst 0->wpAny (model prog w) A.in1 (do
    let __do_lift <-setEpoch a;let __do_lift <-newFields "set_iterator" [f,rawInt 0,.ref a,rawInt (es.size:Nat),rawInt (__do_lift:Nat)]
    ret __do_lift) (λfin s'=>∃v,fin=.done (.ret v)/\∃T' r,s'.TypeIs v T'/\typeLookup (.type T') "__next__"=pure (some r)/\Q v s') E s1:=by
  intro f s1 dr ord fst ps es1 hk hle Ll k hf;refine X0 (wpAny_setEpoch_of (hk _ _ ho) S.dat S.fit ?_);unfold newFields;refine X0 (E4 ?_ (by show sizeOk _;simp[sizeOk,M3]));refine G1 ⟨_,rfl,"set_iterator",_,⟨_,Z1 _ rfl,rfl⟩,Rp.lookup,?_⟩;rw[es1];refine h _ dr _ ord fst ps (λb o e=>B1 _ (hk b o e)) (λb hb=>?_) (λhI=>?_) ?_ (k.mono λb hb o e=>B1 _ e)
  .rcases T1.mp hb with rfl|hb
   .exact hle
   .exact(Ll b hb).1
  .exact O4 _ (Ll _ hI).2
  .subst hf;exact⟨_,Z1 _ rfl,rfl,rfl⟩
 have same:s={ s with heap:=s.heap,drawn:=s.drawn }:=by cases s;rfl
 cases hb:Re w with
 |true=>rw[B2 (by simp)];refine X0 (G1 ?_);exact fin (rawInt 0) s s.drawn _ _ [] same (λ_ _ e=>e) (O1 _) (by simp) (.text hb) rfl
 |false=>
  by_cases Oi:(!t.plain&&decide (es.size>1))=true
  .rw[Q1 (by rw[Oi];rfl)];refine X0 (YO es.size (List.range es.size) s _ (by simp) λys dr hp=>?_);refine X0 (O8 ?_ (by rw[Y0,hp.length_eq,t8];exact hsz));refine fin _ _ dr _ _ [s.heap.objs.size] rfl (λb o e=>B1 _ e) (by show s.heap.objs.size<=(s.heap.push _).objs.size;rw[X5];omega) (λb hb=>by simp at hb;subst hb;refine⟨O1 _,?_⟩;show _<(s.heap.push _).objs.size;rw[X5];omega) (.drawn hb s.heap.objs.size 0 ys hp _ (Z1 _ rfl) rfl) rfl
  .rw[B2 (by simp at Oi |-;exact Oi)];refine X0 (G1 ?_);refine fin (rawInt 0) s s.drawn _ _ [] same (λ_ _ e=>e) (O1 _) (by simp) (.plain hb (by simpa using Oi) (by rw[S.ok.led,hb];rfl) ?_) rfl;cases hp:t.plain with
   |true=>exact S.ok.yE hp
   |false=>exact jP (by rw[hp]at Oi;simp at Oi;omega)
end
section
variable{prog:Program}{w:World}{A:Around}{E:N0}{s:Shared}
theorem mP{a:Addr}{ks:K0}{Q:P0->Shared->Prop}(hh:A.handled=none)(hS:Gh prog w s.heap a (!Re w) ks)(h:∀h' dr tk vs js,(∀b o,s.heap.get? b=some o->h'.get? b=some o)->s.heap.objs.size<h'.objs.size->IntsAre vs js->js.Perm ks->Q vs { s with heap:=h',drawn:=dr,toks:=tk }):wpAny (model prog w) A (collect (.ref a)) Q E s:=by
 obtain⟨o,es,ep,t,ho,S⟩:=hS;have hn:es.size<=sizeLine:=p8 S.few;have ha:a<s.heap.objs.size:=N1 ho;unfold collect;refine X0 (wpAny_runValue (E5 F.entry_proto_collect ?_));rw[c5 F.plain_proto_collect _];show wpAny _ A.in1 (newList [] >>= λl=>again (.builtin "list.__iadd__" ⟨[l,.ref a],[]⟩)) _ _ s;refine X0 (E4 (G1 ⟨G6 ZaB _,E5 F.entry_list_iadd ?_⟩));rw[c5 ZaB _];generalize hP:s.heap.push { cls:=.type "list",data:=.seq ([]:P0).toArray }=Sm;have hL1:Sm.get? s.heap.objs.size=some { cls:=.type "list",data:=.seq ([]:P0).toArray }:=hP▸Z1 _ rfl;have up1:∀b o,s.heap.get? b=some o->Sm.get? b=some o:=λb o e=>hP▸B1 _ e;have Dv:s.heap.objs.size<Sm.objs.size:=N1 hL1;have hT:Shared.TypeIs { s with heap:=Sm } (.ref a) "set":=⟨o,up1 _ _ ho,S.ex.1⟩
 show wpAny _ A.in1 (Builtin.List.listExtendWith (.ref s.heap.objs.size) (.ref a) (.ref s.heap.objs.size)) _ _ { s with heap:=Sm };unfold Builtin.List.listExtendWith;refine X0 (K7 hT ?_);have c1:Builtin.List.listSameRef (.ref s.heap.objs.size) (.ref a)=false:=by simp only[Builtin.List.listSameRef,g5,ne_eq];exact a6 ha
 have c2:(Value.type "set"==Value.type "list")=false:=by decide
 have c3:(Value.type "set"==Value.type "tuple")=false:=by decide
 simp only[c1,c2,c3,Bool.or_false,o4,r6];refine X0 (lP (s:={ s with heap:=Sm }) (up1 _ _ ho) S λh2 dr I ord fst ps wm new hI hit k=>?_);have hT2:Shared.TypeIs { s with heap:=h2,drawn:=dr } (.ref a) "set":=⟨o,wm _ _ (up1 _ _ ho),S.ex.1⟩
 refine X0 (Y3 ?_);unfold Builtin.List.listLengthHint;refine X0 (wpAny_specialOf hT2 F.slot_set_len.lookup ?_);have sp:splitId "set.__len__"=some ("set","__len__"):=by decide +kernel
 dsimp only;rw[sp];dsimp only;refine X0 (wpAny_isInstance (b:=true) hT2 sub_set_self ?_);rw[B2 (by simp),Q1 (by decide +kernel)];refine X0 (K7 hT2 (G1 ?_));rw[Q1 (by decide +kernel)];refine X0 (N8 (X0 ?_));show wpAny _ A.in1 (updateSeq s.heap.objs.size (·.push .none) >>= λ_=>updateSeq s.heap.objs.size (·.pop)) _ _ _;have g1:=wm _ _ hL1;refine X0 (wpAny_updateSeq g1 rfl ?_);have g2:=G4 (Obj.mapSeq (·.push Value.none)) g1 rfl;refine wpAny_updateSeq g2 rfl ?_;have g3:=G4 (Obj.mapSeq (·.pop)) g2 rfl;have IE:∀b o,b≠s.heap.objs.size->h2.get? b=some o->((h2.update s.heap.objs.size (Obj.mapSeq (·.push Value.none))).update s.heap.objs.size (Obj.mapSeq (·.pop))).get? b=some o:=
  λb o hb e=>(D2 _ _ (U3 hb)).trans ((D2 _ _ (U3 hb)).trans e)
 obtain⟨h4,e4⟩:∃h4,h4=(h2.update s.heap.objs.size (Obj.mapSeq (·.push Value.none))).update s.heap.objs.size (Obj.mapSeq (·.pop)):=⟨_,rfl⟩
 have oth:∀b o,b≠s.heap.objs.size->h2.get? b=some o->h4.get? b=some o:=by rw[e4];exact IE
 have g4:∃c,h4.get? s.heap.objs.size=some { cls:=.type "list",dict:=none,data:=.seq #[] c,slots:=#[] }:=⟨_,by rw[e4];exact g3⟩
 obtain⟨c4,g4⟩:=g4;show wpAny _ A.in1 _ _ _ { s with heap:=(h2.update s.heap.objs.size (Obj.mapSeq (·.push Value.none))).update s.heap.objs.size (Obj.mapSeq (·.pop)),drawn:=dr };rw[<-e4];clear e4 IE g3 g2;have out:∀b∈I::a::ps,b≠s.heap.objs.size:=λb hb=>by
  rcases T1.mp hb with rfl|hb
  .have:=new b (by simp);simp only at this;omega
  .rcases T1.mp hb with rfl|hb
   .exact J2 ha
   .have:=new b (by simp[hb]);simp only at this;omega
 have ic:a≠I:=J2 (Y1 (F9 ha Dv) (new I (by simp)));have W:=iP (prog:=prog) (w:=w) (A:=A.in1) (by simpa using hh) ic (ord:=ord) (fst:=fst) hI (o:=o) S.dat S.fit;have st:bj h4 I a (fst 0) 0 es.size ep:=by obtain⟨oi,h1,h3⟩:=hit;exact⟨oi,oth I _ (out I (by simp)) h1,h3⟩
 have st2:h4.get? a=some o:=oth _ _ (out a (by simp)) (wm _ _ (up1 _ _ ho));have st3:Wk w h4 a es ep t ord fst ps:=k.mono λb hb o e=>oth b o (out b (by simp[hb])) e;refine G1 ⟨G6 F.plain_extend_loop _,codeAny_extend_loopS W hn s.heap.objs.size (λhm=>out _ hm rfl) (.ref s.heap.objs.size) es.size 0 { s with heap:=h4,drawn:=dr } #[] c4 rfl (V3 _) ⟨st,st2,st3⟩ g4 (ItemsOf.nil _) λs' acc' c' hm hS' lg=>?_⟩;show wpAny _ A (load s.heap.objs.size >>= _) _ _ s';refine X0 (wpAny_load hS' (G1 ?_));have e1:acc'.toList=ord:=by
  have Nq:ord.length=es.size:=by rw[k.perm.length_eq];simp
  apply List.ext_getElem?;intro j;rcases l3 j acc'.size with hj|hj
  .have:=lg.2 j acc'[j] (by simp[hj]);rw[this];simp[hj]
  .rw[v5 (by simpa using hj),v5 (by rw[Nq,<-lg.1];exact hj)]
 obtain⟨js,j1,j2⟩:=S.ks;obtain⟨ms,r1,r2⟩:=mz (e1▸k.perm) j1;obtain⟨h9,g9,d9,t9,o9⟩:=s';have eg:g9=s.gens:=hm.gens;have ed:d9=dr:=hm.drawn;have eo:o9=s.os:=hm.os;subst eg;subst ed;subst eo;refine h h9 d9 t9 acc'.toList ms (λb ob e=>?_) (N1 hS') r1 (r2.trans j2);have hb:b≠s.heap.objs.size:=J2 (N1 e);have hbI:b≠I:=J2 (Y1 (N1 (up1 _ _ e)) (new I (by simp)));exact hm.heap b ob (by simp[hb,hbI]) (oth b ob hb (wm _ _ (up1 _ _ e)))
theorem nP{a:Addr}{ks:K0}{Q:N0}(hh:A.handled=none)(hS:Gh prog w s.heap a (!Re w) ks)(He:ks.length<64)(h:∀h' dr tk D vs js c,(∀b o,s.heap.get? b=some o->h'.get? b=some o)->s.heap.objs.size<=D->h'.get? D=some (seqObj "list" vs.toArray c)->IntsAre vs js->js.Perm ks->js.Pairwise (·<=·)->Q (.ref D) { s with heap:=h',drawn:=dr,toks:=tk }):wpAny (model prog w) A (call (.builtin "sorted") [.ref a]) Q E s:=by
 refine Y8 U9 w9 y9 (args_sorted1 _) ?_;unfold Builtin.«sorted»;refine X0 (m:=checkCount "sorted" 1 1 _) (G1 (X0 (mP (by simpa using hh) hS λh1 dr tk vs js up1 Dv hv hj=>?_)));have hlen:vs.length=ks.length:=by rw[<-hj.length_eq,(Sk.mp hv).2];simp
 refine X0 (f7 ?_ (by rw[M3];omega));generalize hP:h1.push { cls:=.type "list",data:=.seq vs.toArray }=h2;have g2:h2.get? h1.objs.size=some (seqObj "list" vs.toArray 0):=hP▸Z1 _ rfl;have wm:∀b o,h1.get? b=some o->h2.get? b=some o:=λb o e=>hP▸B1 _ e;show wpAny _ _ _ _ _ { s with heap:=h2,drawn:=dr,toks:=tk };refine X0 (Y3 (O5 Q8 ⟨_,g2,rfl⟩ F8 (list_sort_tree g2 hv (by omega) λout ns' a1 a2 a3=>⟨_,rfl,G1 ⟨_,rfl,?_⟩⟩) (args_list_sort _)));have Wa:h1.objs.size<h2.objs.size:=N1 g2;have key:∃c,(sortedHeap h2 h1.objs.size vs out).get? h1.objs.size=some (seqObj "list" out c):=by
  unfold sortedHeap;obtain⟨e1,q1⟩:∃e1,(h2.update h1.objs.size (Obj.mapSeq λ_=>#[])).get? h1.objs.size=some (seqObj "list" #[] e1):=⟨_,R5 g2 (λ_=>#[])⟩
  exact⟨_,R5 (c:="list") (n:=e1) (xs:=#[]) (B1 _ (B1 _ q1)) (λ_=>out)⟩
 obtain⟨c,hc⟩:=key;refine h _ dr tk h1.objs.size out.toList ns' c (λb ob e=>?_) (by omega) (by simpa using hc) a1 (a2.trans hj) a3;have hb:b≠h1.objs.size:=J2 (N1 (up1 _ _ e));unfold sortedHeap;rw[D2 _ _ (U3 hb)];refine B1 _ (B1 _ ?_);rw[D2 _ _ (U3 hb)];exact wm _ _ (up1 _ _ e)
end
section
variable{prog:Program}{w:World}{A:Around}{E:N0}{s:Shared}
theorem Gh.keep{h h':Heap}{a:Addr}{led:Bool}{ks:K0}(x:Gh prog w h a led ks)(hk:∀o,h.get? a=some o->h'.get? a=some o):Gh prog w h' a led ks:=by obtain⟨o,es,ep,t,ho,S⟩:=x;exact⟨o,es,ep,t,hk o ho,S⟩
theorem oP{h:Heap}{a:Addr}{led:Bool}(ho:h.get? a=some { cls:=.type "set",dict:=none,data:=.set #[] 0 (.fresh 0 0 led) }):Gh prog w h a led []:=
 ⟨_,#[],0,_,ho,⟨rfl,rfl,rfl⟩,rfl,λe he=>by simp at he,⟨[],.nil,.refl _⟩,by decide,rfl,LO _ _ _⟩
theorem pP{R:Result->Shared->Prop}{I:Addr}{fp wr:R0}{G:Array GenState->Array GenState->Prop}{P:Nat->Value->Prop}{St:Nat->Shared->Prop}{ns:K0}{led:Bool}(W:WalksS prog w A.in1 I fp wr G ns.length P St)(a:Addr)(ha:a∉fp)(hv:∀i v,P i v->∃t,v=.int (ns.getD i 0) t)(hb:ns.length+1<scanBound):∀(k i:Nat) (s:Shared),ns.length-i=k->i<=ns.length->St i s->Gh prog w s.heap a led (seen (ns.take i))->(∀s',Moved (a::wr) G s s'->Gh prog w s'.heap a led (seen ns)->R (.ok (.ret .none)) s')->codeAny (model prog w) A (.builtin "set.update.loop" ⟨[.ref a,.ref I],[]⟩) R s:=by
 have pJ:a∉wr:=λh=>ha (W.sub _ h);have sub:∀b∈wr,b∈a::wr:=λb hb=>M1 _ hb;intro k;induction k with
 |zero=>
  intro i s hk hi st hS hR;have e:i=ns.length:=by omega
  subst e;rw[M4]at hS;refine E5 p9 ?_;rw[c5 E7 _];show wpAny _ A.in1 (pyNext (.ref I) >>= _) _ _ s;exact X0 (W.done s _ _ st λs' hm=>G1 (hR s' (hm.mono sub) (hS.keep λo e=>hm.heap a o pJ e)))
 |succ k ih=>
  intro i s hk hi st hS hR;have Wa:i<ns.length:=by omega
  refine E5 p9 ?_;rw[c5 E7 _];show wpAny _ A.in1 (pyNext (.ref I) >>= _) _ _ s;refine X0 (W.item i s _ _ Wa st λv s' hP st' hm=>?_);obtain⟨t,rfl⟩:=hv i v hP;have hS':=hS.keep λo e=>hm.heap a o pJ e;show wpAny _ A.in1 (holding [Value.int (ns.getD i 0) t] (setAdd a (.int (ns.getD i 0) t)) >>= _) _ _ s';refine X0 (Y3 ?_);unfold setAdd;refine Y3 (X0 ((intKind prog w).pyHash (k:=ns.getD i 0) (intKind_is _ _ _ _) ?_));have room:(seen (ns.take i)).length+1<scanBound:=by have:=xM (ns.take i);rw[B4]at this;omega
  refine QO (s:={ s' with toks:=s'.toks+1 }) hS' room λh' b sb hS2=>?_;have e2:wf (seen (ns.take i)) (ns.getD i 0)=seen (ns.take (i+1)):=by rw[<-vM,P4,E1 Wa,K1,E1 Wa];rfl
  rw[e2]at hS2;refine G1 ⟨G6 E7 _,ih (i+1) _ (by omega) Wa (W.frame _ s' _ _ st' (m5 _) λb hb o e=>?_) hS2 λs2 IY qP=>?_⟩
  .rw[sb.2 b λh=>ha (h▸hb)];exact e
  .refine hR s2 (Moved.trans W.gtrans ((hm.mono sub).then_heap (m5 _) λb o hb e=>?_) IY) qP;rw[sb.2 b λh=>hb (h▸W1)];exact e
theorem rP(x:Value){Q:N0}(h:Q (.ref s.heap.objs.size) { s with heap:=s.heap.push { cls:=.type "set",dict:=none,data:=.set #[] 0 (.fresh 0 0 (!Re w)) } }):
  codeAny (model prog w) A (.call (.builtin "set.__new__") ⟨[.type "set",x],[]⟩) (wants Q E) s:=by
 refine codeAny_of_tree ?_;show wpAny _ A.in1 (do checkBuiltinCall "set.__new__" ⟨[.type "set",x],[]⟩;again (.builtin "set.__new__" ⟨[.type "set",x],[]⟩)) _ _ s;refine X0 (wpAny_of_eq (PySem.F.newCall_set_1 x) (G1 ⟨G6 F.plain_set_new _,E5 F.entry_set_new ?_⟩));rw[c5 F.plain_set_new _];unfold Builtin.«set.__new__» Builtin.Frozenset.newClass;have sk:=sub_set_self;obtain⟨hp,g,d,tk,os⟩:=s;dsimp only
 wp_walk
 refine Y5 (G1 ?_);dsimp only;simp only[newObj];exact X0 (wpAny_alloc (G1 (G1 h)))
set_option maxHeartbeats 3200000 in
theorem JE{l:Addr}{its:Array Value}{ns:K0}{Q:N0}(hh:A.handled=none)(hl:s.heap.IsList l its)(hi:IntsAre its.toList ns)(hb:ns.length+1<scanBound)(h:∀(h':Heap) (tk:Nat),Gh prog w h' s.heap.objs.size (!Re w) (seen ns)->(∀b o,b<s.heap.objs.size->s.heap.get? b=some o->h'.get? b=some o)->Q (.ref s.heap.objs.size) { s with heap:=h',toks:=tk }):wpAny (model prog w) A (call (.type "set") [.ref l]) Q E s:=by
 have hlen:its.size=ns.length:=by rw[(Sk.mp hi).2];simp
 obtain⟨c,tl,RZ⟩:=d6.mro;have TZ:=d6.made;have sk:=d6.sub;refine B6 (codeAny_of_tree ?_);show wpAny _ _ (callAny (.type "set") _) _ _ _;refine G1 ⟨Code.quiet_builtin _ (by decide +kernel),E5 F.entry_type_call ?_⟩;rw[Around.under_plain (weight_type_call_type "set" [.ref l] []) rfl];have h1:=d6.notType;have h2:=d6.canCreate;have UZ:=PySem.F.typeCall_set_1 (.ref l)
 repeat (any_goals (first|assumption|wp_step))
 refine Z5 (rP (.ref l) (E:=E) (Q:=λobj s₁=>obj=.ref s.heap.objs.size/\s₁={ s with heap:=s.heap.push { cls:=.type "set",dict:=none,data:=.set #[] 0 (.fresh 0 0 (!Re w)) } }) ⟨rfl,rfl⟩) λr s₁ hr=>?_;cases r with
 |error e=>exact hr
 |ok fl=>
  cases fl with
  |ret obj=>
   obtain⟨rfl,rfl⟩:=hr;have g0:(s.heap.push { cls:=.type "set",dict:=none,data:=.set #[] 0 (.fresh 0 0 (!Re w)) }).get? s.heap.objs.size=some { cls:=.type "set",dict:=none,data:=.set #[] 0 (.fresh 0 0 (!Re w)) }:=Z1 _ rfl;have hT:Shared.TypeIs { s with heap:=s.heap.push { cls:=.type "set",dict:=none,data:=.set #[] 0 (.fresh 0 0 (!Re w)) } } (.ref s.heap.objs.size) "set":=⟨_,g0,rfl⟩
   have VZ:=d6.init.lookup;have WZ:=d6.init.bind (.ref s.heap.objs.size)
   repeat (any_goals (first|assumption|wp_step))
   refine Z5 (Y7 (R:=wants (λr s₂=>r=.none/\∃h' tk,s₂={ s with heap:=h',toks:=tk }/\Gh prog w h' s.heap.objs.size (!Re w) (seen ns)/\(∀b o,b<s.heap.objs.size->s.heap.get? b=some o->h'.get? b=some o)) E)
    d6.init.plain F.entry_set_init (check_set_init_1 hT ?_)) λr₂ s₂ hr₂=>?_
   .obtain⟨ol,Nq,qk,nl,JB⟩:=hl;obtain⟨ocls,odict,odata,oslots⟩:=ol;simp only at qk JB;subst qk;subst JB;have JY:(s.heap.push { cls:=.type "set",dict:=none,data:=.set #[] 0 (.fresh 0 0 (!Re w)) }).get? l=some { cls:=.type "list",dict:=odict,data:=.seq its nl,slots:=oslots }:=B1 _ Nq;have XZ:=PySem.F.sub_list_set;have YZ:=PySem.F.sub_list_frozenset;have ic:(Value.type "list"==Value.type "dict")=false:=by decide
    have qJ:(s.heap.push { cls:=.type "set",dict:=none,data:=.set #[] 0 (.fresh 0 0 (!Re w)) }).IsList l its:=⟨_,JY,rfl,nl,rfl⟩
    unfold Builtin.«set.__init__» noKeywords Builtin.Frozenset.updateFrom;generalize hPI:pyIter=PI
    wp_walk
    subst hPI;refine b7 qJ (X0 (wpAny_runValue ?_));have hlS:l<s.heap.objs.size:=N1 Nq;have sz:(s.heap.push { cls:=.type "set",dict:=none,data:=.set #[] 0 (.fresh 0 0 (!Re w)) }).objs.size=s.heap.objs.size+1:=X5 ..;have hneI:l≠(s.heap.push { cls:=.type "set",dict:=none,data:=.set #[] 0 (.fresh 0 0 (!Re w)) }).objs.size:=by rw[sz];exact J2 (c7 hlS)
    have W:=(Zag (prog:=prog) (w:=w) (A:=A.in1.in1.in1) (by simpa using hh) _ l hneI its).toS;rw[hlen]at W;refine pP W s.heap.objs.size ?_ (λi v hv=>IntsAre.int_at hi i v (by rw[X7];exact hv)) hb (ns.length-0) 0 _ rfl (V3 _) ⟨⟨_,Z1 _ rfl,rfl,rfl⟩,qJ.push _⟩ (oP (led:=!Re w) (B1 _ g0)) ?_
    .rw[sz];simp only[T1,u7,T9,not_or];exact⟨J2 (y8 _),a6 hlS⟩
    .intro s' hm hS';obtain⟨h',g',d',tk',os'⟩:=s';have eg:g'=s.gens:=hm.gens;have ed:d'=s.drawn:=hm.drawn;have eo:os'=s.os:=hm.os;subst eg;subst ed;subst eo;show wpAny _ _ _ _ _ _;refine G1 ?_;show wpAny _ _ (ret Value.none) _ _ _;refine G1 ⟨rfl,h',tk',rfl,hS',λb o hb e=>hm.heap b o ?_ (B1 _ (B1 _ e))⟩;rw[sz];simp only[T1,u7,T9,not_or];exact⟨J2 hb,J2 (c7 hb)⟩
   .cases r₂ with
    |error e=>exact hr₂
    |ok fl₂=>
     cases fl₂ with
     |ret r=>
      obtain⟨rfl,h',tk,rfl,hS',mh⟩:=hr₂
      repeat (any_goals (first|assumption|wp_step))
      exact h _ _ hS' mh
     |_=>exact hr₂.elim
  |_=>exact hr.elim
end
theorem KE{F A B:Hp}(s:Same A B):Same (cut F B) (cut F A):=λb o h=>by
 unfold cut at h |-;split at h
 .rename_i hn;rw[s.free hn];exact h
 .cases h
theorem oz{K:Frag}{H H':Hp}:∀{ds:W0} {vs:U0},ds.all xh=true->Ba K H ds vs->Nb H' ds vs
 |[],vs,_,h=>by simp only[Ba,Nb]at h |-;exact h
 |d::ds,vs,hs,h=>by simp only[Ba,Nb]at h |-;rw[O6,Z2]at hs;obtain⟨v,r,rfl,h2,h3⟩:=h;refine⟨v,r,rfl,?_,oz hs.2 h3⟩;have h1:=hs.1;cases d<;>simp_all [Rep,zc,xh]
noncomputable def tN(K:Frag)(f:Ex):TE:=λσ H Q=>∃BF BH F env L d,lb K BF BH F H σ env L/\f env=some d/\∀v F' H',Ext F H F' H'->zc (cut F' BH) d v->Q v H'
noncomputable def tW(K:Frag)(f:Ex):TE:=λσ H Q=>∃BF BH F env L d,lb K BF BH F H σ env L/\f env=some d/\∀v F' H',Ext F H F' H'->zc (cut F' H) d v->Q v H'
structure Ug(X:Cx)(e:Expr)(f:Ex):Prop where
 h:PE X e (tN X.K f)
structure ae(X:Cx)(e:Expr)(f:Ex):Prop where
 h:PE X e (tW X.K f)
noncomputable def rN:Mc:=λBH F' H' d v=>zc (cut F' BH) d v
theorem ME:∀BH F' H',rN BH F' H' .non .non:=λ_ _ _=>by simp[rN,zc]
section
variable{X:Cx}{m m1 m2:Md}{r:Mc}{a b e:Expr}{es:T0}{f g:Ex}{fs:List Ex}{pos pos' p p2:Pos}
theorem ae.n(h:ae X e f):Ug X e f:=⟨PE.of h.h λσ H Q ⟨BF,BH,F,env,L,d,S,e,q⟩=>⟨BF,BH,F,env,L,d,S,e,λv F' H' z r=>q v F' H' z (zc.mono (KE S.s0) _ _ r)⟩⟩
theorem Ug.d(h:Ug X e f):PD X .k e f:=PD.mk<|PE.of h.h λσ H Q ⟨BF,BH,F,env,L,d,S,e,q⟩=>⟨BF,BH,F,env,L,d,S,e,λv F' H' z r=>q v F' H' z (zc.rep _ _ (zc.mono Lk _ _ r))⟩
theorem ze.w(h:ze X m e f)(hf:∀env d,f env=some d->∃ds,d=.lst ds/\ds.all xh=true):ae X e f:=⟨PE.of h λσ H Q Ca=>Cb Ca λBF BH F env L d S e q=>by obtain⟨ds,rfl,hs⟩:=hf env d e;refine⟨BF,BH,F,env,L,ds,S,e,λa vs F' H' z h0 h1 h2 r=>?_⟩;have y:Ext F H (upd F' a (.lst vs)) H':=z.Tc h0 h1 h2;refine q _ _ H' y ?_;simp only[zc];exact⟨a,vs,rfl,by rw[Mk h0];exact Lb,oz hs r⟩⟩
theorem Uk(i:Nat){x:Str}(hN:X.N[i]?=some x:=by kernel_rfl)(hv:Ee X.env.scope x=true:=by kernel_rfl)(hd:(x==("__debug__":Str))=false:=by kernel_rfl)(Mb:(x==("__classdict__":Str))=false:=by kernel_rfl):Ug X (.Name x pos) (rg i):=⟨PE.of (kf hN (Cf hv) hd Mb) λσ H Q Ca=>Cb Ca λBF BH F env L d S e q=>by
 unfold rg at e;cases he:env[i]? with
 |none=>rw[he]at e;cases e
 |some s=>
  rw[he]at e;obtain⟨ov,h1,h2⟩:=S.sl i s he;cases s with
  |fr d'=>cases e;obtain⟨v,rfl,r⟩:=h2;exact⟨v,h1,q v F H (.refl S.fh) r⟩
  |sh d'=>cases e
  |un=>cases e
  |ow _=>cases e
  |tab _=>cases e
  |dc _=>cases e
  |nw _=>cases e
  |jk _=>cases e
  |jl _=>cases e
  |xc _=>cases e⟩
theorem xm(nd:X.N.Nodup)(i:Nat){x:Str}(ha:Ug X e f)(hi:X.N[i]?=some x:=by kernel_rfl)(hx:zg X.env.scope x=true:=by kernel_rfl)(hs:swapsWith e (some (.Name x pos')) pos.line X.env=pure false:=by rfl)(hf:Bg X x=true:=by kernel_rfl):Rb X r (.Assign [.Name x pos'] e pos) (zh i f):=
 Rb.mk<|PS.of (Zm nd hi (Bh hx) ha.h hs (Dh hf)) λD0 σ H Ca=>qd Ca λBF BH F env L o Oa S e k=>by
  unfold zh at e;split at e
  .rename_i d h1;cases e;exact⟨BF,BH,F,env,L,d,S,h1,λv F' H' z r=>k F' H' _ _ ((S.ext z).set (l:=[]) i ⟨v,rfl,r⟩ (λa h=>by cases h) (λa h=>by cases h)) z.ff⟩
  .cases e
theorem cg(ha:Ug X e f):Rb X rN (.Return (some e) pos) (Na f):=Rb.mk<|PS.of (qu ha.h) λD0 σ H Ca=>qd Ca λBF BH F env L o Oa S e k=>by
 unfold Na at e;split at e
 .rename_i d h1;cases e;exact⟨BF,BH,F,env,L,d,S,h1,λv F' H' z r=>k F' H' σ L (S.ext z) z.ff v r⟩
 .cases e
theorem Hh{k:Nat}{x:Str}{φ:V0}(G:Fh X.prog X.w X.K X.mg X.base k x rN φ)(hr:rc k X.A)(ha:Cg X .k (e::es) fs)(hg:X.env.kindOf x=some .globalImplicit:=by kernel_rfl)(Vd:(x==("__debug__":Str))=false:=by kernel_rfl)(hn:Zb e=true:=by rfl)(Jf:yg es=true:=by rfl):ae X (.Call (.Name x p) (e::es) [] pos) (Fa φ fs):=
 ⟨PE.of (Vy G hr ha hg Vd (Pc hn) (Pk Jf)) λσ H Q ⟨BF,BH,F,env,L,d,S,e,q⟩=>
  ⟨BF,BH,F,env,L,d,S,e,λv F' H' H0 s0 s1 z r=>q v F' H' z (zc.mono (KE s1) _ _ r)⟩⟩
theorem sP(i:Nat){x:Str}{p1 p2 p3 p4:Pos}(ha:ze X .k e f)(hN:X.N[i]?=some x:=by kernel_rfl)(hv:Ee X.env.scope x=true:=by kernel_rfl)(hd:(x==("__debug__":Str))=false:=by kernel_rfl)(Mb:(x==("__classdict__":Str))=false:=by kernel_rfl)(Sc:Zb e=true:=by rfl)(gf:attributeBase (.Name x p1) "extend" X.env (eval (.Name x p1) X.env)=eval (.Name x p1) X.env:=by rfl)(jf:(p2.endLine==p3.line)=true:=by rfl)(Kf:swapsWith (.Call (.Attribute (.Name x p1) "extend" p2) [e] [] p3) none p4.line X.env=pure false:=by rfl):Rb X r (.Expr (.Call (.Attribute (.Name x p1) "extend" p2) [e] [] p3) p4) (kr i f):=
 Rb.mk<|PS.of (Po (Ek m4 PySem.F.slot_list_extend PySem.F.type_list_extend L2.gM (kf hN (Cf hv) hd Mb) (jd ha Sd (Gd Sc)) gf (by rw[Kj (Lj Sc)];rfl) jf (Pc Sc) rfl) Kf) λD0 σ H Ca=>qd Ca λBF BH F env L o Oa S e k=>by
  unfold kr at e;split at e
  .rename_i ds xs he h1;split at e
   .rename_i hlen;cases e;obtain⟨p,vs,hσ,hl,hp,r⟩:=nv S he;refine⟨_,hσ,Jp hp,BF,BH,F,env,L,xs,S,h1,λq zs F' H' z h0 hq fq rz=>?_⟩;have S':=S.ext z;have r':Ba X.K F' (ds++xs) (vs++zs):=(Ba.mono z.ff _ _ r).append rz;refine⟨p,q,vs,zs,rfl,rfl,z.hh _ _ hp,hq,by rw[<-r.length,<-rz.length];exact E3 hlen Pr,?_⟩;exact k F' _ σ L (qv S' he hl hσ r') z.ff
   .cases e
  .cases e
theorem Tl:∀{ns:K0} {us:P0},Vals (ns.map V.int) us->IntsAre us ns
 |[],_,h=>by cases h;exact .nil
 |n::ns,_,h=>by
  cases h with
  |cons h1 h2=>obtain⟨t,rfl⟩:=h1;exact .cons n t (Tl h2)
theorem pz:∀{ns:K0} {us:P0},IntsAre us ns->Vals (ns.map V.int) us
 |[],_,h=>by cases h;exact .nil
 |n::ns,_,h=>by
  cases h with
  |cons _ t h2=>exact .cons ⟨t,rfl⟩ (pz h2)
theorem tP{pins:M0}{σ:L2.St}{H:Hp}{s:Shared}(I:Inv X pins σ H s)(dr:Drawn):Inv X pins σ H { s with drawn:=dr }:=⟨I.ok,I.os,I.bare,I.base,I.loc,I.cell,I.free,I.Uf,I.pin,I.Va,I.len⟩
noncomputable def uP(ta:TE):TE:=λσ H Q=>ta σ H λx H1=>∃y,[x]=[y]/\∃(l:Addr) (ns:K0),y=.ref l/\Cc X.K H1 l (ns.map V.int)/\ns.length<=3000/\(seen ns).length<64/\∀p,H1 p=none->Q (.ref p) (upd H1 p (.lst ((Wc (seen ns)).map V.int)))
theorem vP{p3 p4:Pos}{ta:TE}(T:Bt X.mg)(ha:PE X a ta)(hc:X.calm=true)(hg:X.env.kindOf "sorted"=some .globalImplicit)(Lf:X.env.kindOf "set"=some .globalImplicit)(hs:Zb a=true):PE X (.Call (.Name "sorted" p) [.Call (.Name "set" p3) [a] [] p4] [] pos) (uP (X:=X) ta):=by
 intro pins s σ H Q I h;refine X3 (Ri I hg T.sorted V9 ?_ (by decide) (by decide));refine D6 ?_ (Pc rfl) rfl;rw[Gd (env:=X.env) (e:=.Call (.Name "set" p3) [a] [] p4) rfl];show wpAny _ _ (spliced ((false,eval (.Call (.Name "set" p3) [a] [] p4) X.env)::[])) _ _ s;refine j6 (L2.Ua (Q:=λu s1=>∃(q:Addr) (ns:K0) (H1:Hp) (s0:Shared) (h':Heap) (tk:Nat),u=.ref q/\s1={ s0 with heap:=h',toks:=tk }/\Inv X pins σ H1 s0/\(∀b o,s0.heap.get? b=some o->h'.get? b=some o)/\s0.heap.objs.size<=h'.objs.size/\
   Gh X.prog X.w h' q (!Re X.w) (seen ns)/\(seen ns).length<64/\∀p,H1 p=none->Q (.ref p) (upd H1 p (.lst ((Wc (seen ns)).map V.int)))) ?inner λu s1 hu=>d7 ?outer)
 case inner=>
  refine X3 (Ri I Lf T.set R9 ?_ (by decide) (by decide));refine N4 (L2.Ua (jd ha Sd (Gd hs) p4 pins s σ H (λxs H1=>∃x,xs=[x]/\∃(l:Addr) (ns:K0),x=.ref l/\Cc X.K H1 l (ns.map V.int)/\ns.length<=3000/\(seen ns).length<64/\∀p,H1 p=none->Q (.ref p) (upd H1 p (.lst ((Wc (seen ns)).map V.int)))) I h) λus s1 ⟨vs,H1,I1,r1,q1⟩=>?_) (Pc hs) rfl;obtain⟨x,rfl,l,ns,rfl,hS,h3,He,q⟩:=q1;obtain⟨u,rfl,ru⟩:=r1.one;cases ru;obtain⟨its,r,p,z⟩:=I1.list hS;have hi:=Tl r;refine JE (I1.ok.hd hc) p.isList (by simpa using hi) (by rw[show scanBound=4096 from rfl];omega) λh' tk hX hk=>?_;obtain⟨o,es,ep,t,ho,_⟩:=id hX;have Wa:s1.heap.objs.size<h'.objs.size:=N1 ho;exact⟨_,ns,H1,s1,h',tk,rfl,rfl,I1,λb o e=>hk b o (N1 e) e,U6 Wa,hX,He,q⟩
 case outer=>
  obtain⟨q,ns,H1,s0,h',tk,rfl,rfl,I1,hk,hsz,hX,He,k⟩:=hu;refine nP (s:={ s0 with heap:=h',toks:=tk }) (I1.ok.hd hc) hX He λh2 dr tk2 D vs js c up hD hg hv hj hle=>?_;have ej:js=Wc (seen ns):=ZC hj hle;have I2:=(tP I1 dr).laid (a:=D) (o:=.lst ((Wc (seen ns)).map V.int)) (h':=h2) (t':=tk2) (λb u e=>up b u (hk b u e)) (E3 hsz hD) ⟨by rw[Y0,(Af _).length_eq,M3];omega,vs,c,ej▸pz hv,hg⟩;exact⟨.ref D,_,I2,rfl,k D (I1.Va.fresh (E3 hsz hD))⟩
theorem ints_of:∀{xs:W0} {ns:K0},Xd xs=some ns->xs=ns.map D.int
 |[],ns,h=>by simp only[Xd]at h;cases h;rfl
 |.int i::xs,ns,h=>by
  simp only[Xd]at h;split at h
  .rename_i r hr;cases h;rw[ints_of hr];rfl
  .cases h
 |.non::_,_,h=>by simp[Xd]at h
 |.bl _::_,_,h=>by simp[Xd]at h
 |.str _::_,_,h=>by simp[Xd]at h
 |.lst _::_,_,h=>by simp[Xd]at h
 |.tup _::_,_,h=>by simp[Xd]at h
 |.dct _::_,_,h=>by simp[Xd]at h
theorem As{K:Frag}{H:Hp}:∀{ns:K0} {vs:U0},Ba K H (ns.map D.int) vs->vs=ns.map V.int
 |[],vs,h=>by simpa[Ba]using h
 |n::ns,vs,h=>by simp only[V1,Ba]at h;obtain⟨v,r,rfl,h2,h3⟩:=h;rw[pd h2,As h3,V1]
theorem NE{x d:D}(h:Gk x=some d):∃ns,x=.lst (ns.map D.int)/\ns.length<=3000/\(seen ns).length<64/\d=.lst ((Wc (seen ns)).map D.int):=by
 unfold Gk at h;split at h
 .rename_i xs;split at h
  .rename_i ns hn;split at h
   .rename_i hl;cases h;exact⟨ns,by rw[ints_of hn],hl.1,hl.2,rfl⟩
   .cases h
  .cases h
 .cases h
theorem wP{p3 p4:Pos}(T:Bt X.mg)(ha:PD X m1 a f)(hc:X.calm=true:=by rfl)(hg:X.env.kindOf "sorted"=some .globalImplicit:=by kernel_rfl)(Lf:X.env.kindOf "set"=some .globalImplicit:=by kernel_rfl)(hs:Zb a=true:=by rfl):ze X m (.Call (.Name "sorted" p) [.Call (.Name "set" p3) [a] [] p4] [] pos) (za Gk f):=
 PE.of (vP T ha.h hc hg Lf hs) λσ H Q Ca=>Cb Ca λBF BH F env L ds S e q=>by
  unfold za at e;split at e
  .rename_i x hx;obtain⟨ns,rfl,h3,He,e2⟩:=NE e;refine⟨BF,BH,F,env,L,_,S,hx,λv F' H' z rx=>?_⟩;simp only[Rep]at rx;obtain⟨l,vs,rfl,hS,hr⟩:=rx;have ev:=As hr;subst ev;refine⟨_,rfl,l,ns,rfl,?_,h3,He,λp hp=>?_⟩
   .cases m1 with
    |r=>exact hS
    |k=>exact z.fh.seq hS
    |f=>exact(Lk.trans z.fh).seq hS
   .obtain⟨y2,h0,h2,s⟩:=rm (m:=m) S z hp (HO.lst ((Wc (seen ns)).map V.int));cases e2;refine q p _ F' _ y2 h0 Lb h2 ?_;exact Ba.ints _
  .cases e
theorem yP{env:Env}{d:D}(h:za Gk f env=some d):∃ds,d=.lst ds/\ds.all xh=true:=by
 unfold za at h;split at h
 .obtain⟨ns,_,_,_,rfl⟩:=NE h;exact⟨_,rfl,by simp[R7,xh,L5]⟩
 .cases h
theorem OE{p3 p4:Pos}(T:Bt X.mg)(ha:PD X m1 a f)(hc:X.calm=true:=by rfl)(hg:X.env.kindOf "sorted"=some .globalImplicit:=by kernel_rfl)(Lf:X.env.kindOf "set"=some .globalImplicit:=by kernel_rfl)(hs:Zb a=true:=by rfl):ae X (.Call (.Name "sorted" p) [.Call (.Name "set" p3) [a] [] p4] [] pos) (za Gk f):=ze.w (m:=.k) (wP T ha hc hg Lf hs) λenv d h=>yP h
theorem zP(i:Nat){x:Str}{p1:Pos}(T:Bt X.mg)(hg:X.env.kindOf "list"=some .globalImplicit:=by kernel_rfl)(hN:X.N[i]?=some x:=by kernel_rfl)(hv:Ee X.env.scope x=true:=by kernel_rfl)(hd:(x==("__debug__":Str))=false:=by kernel_rfl)(Mb:(x==("__classdict__":Str))=false:=by kernel_rfl):ze X .k (.Call (.Name "list" p) [.Name x p1] [] pos) (za Je (ar i)):=
 PE.of (To IC hg T.list (by decide +kernel) (jd (kf hN (Cf hv) hd Mb) Sd (Gd rfl)) (by decide) (by decide) (Pc rfl) rfl) λσ H Q Ca=>Cb Ca λBF BH F env L ds S e q=>by
  have fin:∀(p:Addr) (vs:U0),Cc X.K H p vs\/Qe X.K H p vs->Ba X.K F ds vs->σ[i]?=some (some (.ref p))->∃v,σ[i]?=some (some v)/\∃(p:Addr) (vs:U0),[v]=[.ref p]/\(Cc X.K H p vs\/Qe X.K H p vs)/\∀l,H l=none->Q (.ref l) (upd H l (.lst vs)):=λp vs h1 h2 h3=>
   ⟨_,h3,p,vs,rfl,h1,λl hl=>by obtain⟨y,h0,KY,s⟩:=rm (m:=.k) S (.refl S.fh) hl (HO.lst vs);exact q l vs F _ y h0 Lb KY (Ba.mono s _ _ h2)⟩
  unfold za ar at e;cases he:env[i]? with
  |none=>rw[he]at e;cases e
  |some sl=>
   rw[he]at e;obtain⟨ov,h1,h2⟩:=S.sl i sl he;have sh:∀(d:D) (v:V),ov=some v->Rep X.K F d v->Je d=some (.lst ds)->∃v,σ[i]?=some (some v)/\∃(p:Addr) (vs:U0),[v]=[.ref p]/\(Cc X.K H p vs\/Qe X.K H p vs)/\∀l,H l=none->Q (.ref l) (upd H l (.lst vs)):=by
    intro d v ev rv hl;subst ev;unfold Je at hl;split at hl
    .cases hl;simp only[Rep]at rv;obtain⟨p,vs,rfl,s1,t1⟩:=rv;exact fin p vs (.inl (S.fh.seq s1)) t1 h1
    .cases hl;simp only[Rep]at rv;obtain⟨p,vs,rfl,s1,t1⟩:=rv;exact fin p vs (.inr (Ij S.fh s1)) t1 h1
    .cases hl
   cases sl with
   |un=>cases e
   |dc _=>cases e
   |sh d=>obtain⟨v,Zt,rv⟩:=h2;exact sh d v Zt rv e
   |fr d=>obtain⟨v,Zt,rv⟩:=h2;exact sh d v Zt (zc.rep _ _ (zc.mono Lk _ _ rv)) e
   |ow ds'=>obtain⟨p,vs,rfl,_,h3,r⟩:=h2;have e':some (D.lst ds')=some (.lst ds):=e;cases e';exact fin p vs (.inl (.inl (.inl h3))) r h1
   |tab rs=>cases e
   |nw ds'=>obtain⟨p,vs,rfl,_,h3,r⟩:=h2;have e':some (D.lst ds')=some (.lst ds):=e;cases e';exact fin p vs (.inl (.inl (.inl h3))) (Nb.reps _ _ (Nb.mono Lk _ _ r)) h1
   |jk _=>cases e
   |jl _=>cases e
   |xc _=>cases e
theorem BP(i:Nat){x:Str}{p1:Pos}(T:Bt X.mg)(hg:X.env.kindOf "list"=some .globalImplicit:=by kernel_rfl)(hN:X.N[i]?=some x:=by kernel_rfl)(hv:Ee X.env.scope x=true:=by kernel_rfl)(hd:(x==("__debug__":Str))=false:=by kernel_rfl)(Mb:(x==("__classdict__":Str))=false:=by kernel_rfl):PD X .k (.Call (.Name "list" p) [.Name x p1] [] pos) (za Je (ar i)):=(zP i T hg hN hv hd Mb).d λenv d h=>lv h
end
section
open PySem.W
section
variable{n:Nat}{key:Nat->K0}
noncomputable def Kp(key:Nat->K0)(p:Array Nat)(i:Nat):K0:=key (p.getD i 0)
noncomputable def Jh(key:Nat->K0)(p:Array Nat)(m:Nat):Prop:=∀i j,i<=j->j<m->Jb (Kp key p i) (Kp key p j)
noncomputable def Di(key:Nat->K0)(p:Array Nat)(m:Nat):Prop:=∀i j,i<=j->j<m->Jb (Kp key p j) (Kp key p i)
structure Val(n:Nat)(p:Array Nat):Prop where
 sz:p.size=n
 pm:p.toList.Perm (List.range n)
theorem Val.lt(h:Val n p){i:Nat}(hi:i<n):p.getD i 0<n:=by
 have hs:i<p.size:=by rw[h.sz];exact hi
 rw[show p.getD i 0=p[i] by simp[Array.getD,hs]];have:=h.pm.mem_iff.mp (Array.getElem_mem_toList hs);simpa using this
theorem Val.rev(h:Val n p)(i j:Nat):Val n (kas_rev p i j):=⟨(mirror_size _ _ _ _).trans h.sz,(X8.mp (mirror_perm _ _ _ _)).trans h.pm⟩
theorem Val.DP(h:Val n p)(i j:Nat):Val n (bubble p i j):=⟨(bubble_size _ _ _).trans h.sz,(X8.mp (bubble_perm _ _ _)).trans h.pm⟩
theorem getD_eq{p:Array Nat}{i:Nat}:p.getD i 0=(p[i]?).getD 0:=by simp[Array.getD];split<;>simp_all
theorem Bs(h:Val n p){i j k:Nat}(hj:j<=n):Kp key (kas_rev p i j) k=if i<=k/\k<j then Kp key p (i+j-1-k)else Kp key p k:=by
 unfold Kp kas_rev;rw[getD_eq,getElem?_mirror_all (by rw[h.sz];exact hj)];split
 .rw[getD_eq]
 .rw[getD_eq]
theorem QE(h:Val n p){src d k:Nat}(hs:src<n)(hd:d<=src):Kp key (bubble p src d) k=if k=src-d then Kp key p src else if src-d<k/\k<=src then Kp key p (k-1)else Kp key p k:=by
 unfold Kp;rw[getD_eq,getElem?_bubble (by rw[h.sz];exact hs) d hd];split
 .rw[getD_eq]
 .split
  .rw[getD_eq]
  .rw[getD_eq]
theorem Jh.snoc{p:Array Nat}{m:Nat}(hm:1<=m)(h:Jh key p m)(k:Jb (Kp key p (m-1)) (Kp key p m)):Jh key p (m+1):=λi j Ge hj=>by
 rcases l3 j m with h1|h1
 .exact h i j Ge h1
 .have:j=m:=by omega
  subst this;rcases l3 i j with h2|h2
  .exact(h i (j-1) (by omega) (by omega)).trans k
  .have:i=j:=by omega
   subst this;exact Jb.refl _
theorem Di.snoc{p:Array Nat}{m:Nat}(hm:1<=m)(h:Di key p m)(k:Jb (Kp key p m) (Kp key p (m-1))):Di key p (m+1):=λi j Ge hj=>by
 rcases l3 j m with h1|h1
 .exact h i j Ge h1
 .have:j=m:=by omega
  subst this;rcases l3 i j with h2|h2
  .exact k.trans (h i (j-1) (by omega) (by omega))
  .have:i=j:=by omega
   subst this;exact Jb.refl _
noncomputable def Fv(key:Nat->K0)(p:Array Nat)(m q:Nat):Prop:=∀i,m-(q+1)<=i->i<m->Kp key p i=Kp key p (m-1)
theorem Di.rev(hv:Val n p){m q:Nat}(hq:q+1<=m)(hm:m<=n)(h:Di key p m)(a:Fv key p m q):Di key (kas_rev p (m-(q+1)) m) m/\(∀k,k<m->Kp key (kas_rev p (m-(q+1)) m) k=Kp key p k)/\∀k,m<=k->Kp key (kas_rev p (m-(q+1)) m) k=Kp key p k:=by
 have e:∀k,k<m->Kp key (kas_rev p (m-(q+1)) m) k=Kp key p k:=λk hk=>by
  rw[Bs hv hm];split
  .rename_i hc;rw[a _ (by omega) (by omega),a k hc.1 hc.2]
  .rfl
 refine⟨λi j Ge hj=>?_,e,λk hk=>?_⟩
 .rw[e i (by omega),e j hj];exact h i j Ge hj
 .rw[Bs hv hm,B2 (by omega)]
theorem Di.up(hv:Val n p){m:Nat}(hm:m<=n)(h:Di key p m):Jh key (kas_rev p 0 m) m:=λi j Ge hj=>by rw[Bs hv hm,Bs hv hm,Q1 (by omega),Q1 (by omega)];exact h _ _ (by omega) (by omega)
end
section
variable{n:Nat}{key:Nat->K0}{cmp:Nat->Nat->(Bool->Shared->Prop)->Shared->Prop}{P:Shared->Prop}
variable(hc:∀i j,i<n->j<n->∀(C:Bool->Shared->Prop) s,P s->(∀s',P s'->C (Tb (key i) (key j)) s')->cmp i j C s)
include hc
theorem RE{p:Array Nat}(hv:Val n p){Q:Nat->Shared->Prop}:∀(f m:Nat) (s:Shared),1<=m->m+f<=n->Jh key p m->P s->(∀m' s',m<=m'->m'<=m+f->Jh key p m'->(m'<m+f->Tb (Kp key p m') (Kp key p (m'-1))=true)->P s'->Q m' s')->(kas_asc p f m).kasWp cmp Q s:=by
 intro f;induction f with
 |zero=>intro m s h1 h2 hu hp hQ;exact hQ m s (O1 _) (O1 _) hu (λh=>by omega) hp
 |succ f ih=>
  intro m s h1 h2 hu hp hQ;unfold kas_asc;refine hc _ _ (hv.lt (by omega)) (hv.lt (by omega)) _ s hp λs' Be=>?_;cases hl:Tb (Kp key p m) (Kp key p (m-1))with
  |true=>have rf:Tb (key (p.getD m 0)) (key (p.getD (m-1) 0))=true:=hl;simp only[rf,↓reduceIte];exact hQ m s' (O1 _) (by omega) hu (λ_=>hl) Be
  |false=>have rf:Tb (key (p.getD m 0)) (key (p.getD (m-1) 0))=false:=hl;simp only[rf,o4,↓reduceIte];exact ih (m+1) s' (by omega) (by omega) (hu.snoc h1 hl) Be λm' s2 a b c d e=>hQ m' s2 (by omega) (by omega) c (λh=>d (by omega)) e
theorem FP{Q:Array Nat×Nat×Nat->Shared->Prop}:∀(f:Nat) (p:Array Nat) (m q:Nat) (s:Shared),Val n p->m+f<=n->q+1<=m->Di key p m->Fv key p m q->P s->(∀p' m' q' s',Val n p'->m<=m'->m'<=n->q'+1<=m'->Di key p' m'->Fv key p' m' q'->P s'->Q (p',m',q') s')->(kas_desc f p m q).kasWp cmp Q s:=by
 intro f;induction f with
 |zero=>intro p m q s hv h2 hq hd ha hp hQ;exact hQ p m q s hv (O1 _) (by omega) hq hd ha hp
 |succ f ih=>
  intro p m q s hv h2 hq hd ha hp hQ;unfold kas_desc;refine hc _ _ (hv.lt (by omega)) (hv.lt (by omega)) _ s hp λs' Be=>?_;cases hl:Tb (Kp key p m) (Kp key p (m-1))with
  |true=>
   have rf:Tb (key (p.getD m 0)) (key (p.getD (m-1) 0))=true:=hl;simp only[rf,↓reduceIte];have one:∀p',Fv key p' (m+1) 0:=λp' i h3 h4=>by rw[show i=m+1-1 by omega]
   by_cases rJ:q>0
   .rw[Q1 rJ];obtain⟨r1,r2,r3⟩:=hd.rev hv hq (by omega) ha;refine ih _ (m+1) 0 s' (hv.rev _ _) (by omega) (by omega) (r1.snoc (by omega) ?_) (one _) Be λp' m' q' s2 a b c d e g k=>hQ p' m' q' s2 a (by omega) c d e g k;rw[r3 m (O1 _),r2 (m-1) (by omega)];exact Jb.of hl
   .rw[B2 rJ];exact ih p (m+1) 0 s' hv (by omega) (by omega) (hd.snoc (by omega) (Jb.of hl)) (one _) Be λp' m' q' s2 a b c d e g k=>hQ p' m' q' s2 a (by omega) c d e g k
  |false=>
   have rf:Tb (key (p.getD m 0)) (key (p.getD (m-1) 0))=false:=hl;simp only[rf,o4,↓reduceIte];refine hc _ _ (hv.lt (by omega)) (hv.lt (by omega)) _ s' Be λs2 si=>?_;cases hk:Tb (Kp key p (m-1)) (Kp key p m)with
   |true=>have mh:Tb (key (p.getD (m-1) 0)) (key (p.getD m 0))=true:=hk;simp only[mh,↓reduceIte];exact hQ p m q s2 hv (O1 _) (by omega) hq hd ha si
   |false=>
    have mh:Tb (key (p.getD (m-1) 0)) (key (p.getD m 0))=false:=hk;simp only[mh,o4,↓reduceIte];have e:Kp key p m=Kp key p (m-1):=Mu _ _ hl hk;refine ih p (m+1) (q+1) s2 hv (by omega) (by omega) (hd.snoc (by omega) (by rw[e];exact Jb.refl _)) (λi h3 h4=>?_) si λp' m' q' s3 a b c d e g k=>hQ p' m' q' s3 a (by omega) c d e g k;rw[show m+1-1=m by omega,e];rcases l3 i m with h5|h5
    .exact ha i (by omega) h5
    .rw[show i=m by omega,e]
theorem SE{p:Array Nat}(hv:Val n p){Q:Nat×Array Nat->Shared->Prop}{m:Nat}{s:Shared}(h1:1<=m)(hm:m<=n)(hd:Di key p m)(hp:P s)(hQ:∀m' p' s',Val n p'->1<=m'->m'<=n->Jh key p' m'->P s'->Q (m',p') s'):(kas_tail3 m n p).kasWp cmp Q s:=by unfold kas_tail3;rw[KasT.kasWp_bind];exact RE hc (hv.rev 0 m) (n-m) m s h1 (by omega) (hd.up hv hm) hp λm' s' a b c d e=>hQ m' _ s' (hv.rev 0 m) (by omega) (by omega) c e
theorem UE{p:Array Nat}(hv:Val n p){Q:Nat×Array Nat->Shared->Prop}{m:Nat}{s:Shared}(h1:1<=m)(hm:m+1<=n)(hd:Di key p (m+1))(hp:P s)(hQ:∀m' p' s',Val n p'->1<=m'->m'<=n->Jh key p' m'->P s'->Q (m',p') s'):(kas_descPart m n p).kasWp cmp Q s:=by
 unfold kas_descPart;rw[KasT.kasWp_bind];refine FP hc (n-(m+1)) p (m+1) 0 s hv (by omega) (by omega) hd (λi h3 h4=>by rw[show i=m+1-1 by omega]) hp λp' m' q' s' a b c d e g k=>?_;by_cases hq:q'>0
 .dsimp only;rw[Q1 hq];exact SE hc (a.rev _ _) (by omega) c (e.rev a d c g).1 k hQ
 .dsimp only;rw[B2 hq];exact SE hc a (by omega) c e k hQ
theorem GP{p:Array Nat}(hv:Val n p)(h2:2<=n){Q:Nat×Array Nat->Shared->Prop}{s:Shared}(hp:P s)(hQ:∀m' p' s',Val n p'->1<=m'->m'<=n->Jh key p' m'->P s'->Q (m',p') s'):(kas_count n p).kasWp cmp Q s:=by
 unfold kas_count;rw[KasT.kasWp_bind];refine RE hc hv (n-1) 1 s (O1 _) (by omega) (λi j Ge hj=>by rw[show i=j by omega];exact Jb.refl _) hp λm s' a b c d e=>?_;by_cases hm:(m==n)=true
 .rw[Q1 hm];exact hQ m p s' hv a (by omega) c e
 .rw[B2 hm];have ZZ:m≠n:=by simpa using hm
  have Wa:=d (by omega);by_cases h3:m>1
  .rw[Q1 h3];refine hc _ _ (hv.lt (by omega)) (hv.lt (by omega)) _ s' e λs2 si=>?_;cases hl:Tb (Kp key p 0) (Kp key p (m-1))with
   |true=>have rf:Tb (key (p.getD 0 0)) (key (p.getD (m-1) 0))=true:=hl;simp only[rf,↓reduceIte];exact hQ m p s2 hv a (by omega) c si
   |false=>
    have rf:Tb (key (p.getD 0 0)) (key (p.getD (m-1) 0))=false:=hl;simp only[rf,o4,↓reduceIte];have same:∀i,i<m->Kp key p i=Kp key p (m-1):=λi hi=>Jb.anti (c i (m-1) (by omega) (by omega)) (Jb.trans (show Jb (Kp key p (m-1)) (Kp key p 0)from hl) (c 0 i (by omega) hi));have hr:∀k,Kp key (kas_rev p 0 m) k=Kp key p k:=λk=>by
     rw[Bs hv (by omega)];split
     .rename_i hk;rw[same _ (by omega),same k (by omega)]
     .rfl
    refine UE hc (hv.rev 0 m) a (by omega) (λi j Ge hj=>?_) si hQ;rw[hr,hr];rcases l3 j m with h5|h5
    .rw[same i (by omega),same j h5];exact Jb.refl _
    .rw[show j=m by omega];rcases l3 i m with h6|h6
     .rw[same i h6];exact Jb.of Wa
     .rw[show i=m by omega];exact Jb.refl _
  .rw[B2 h3];have e1:m=1:=by omega
   subst e1;refine UE hc hv (by omega) (by omega) (λi j Ge hj=>?_) e hQ;rcases l3 j 1 with h5|h5
   .rw[show i=j by omega];exact Jb.refl _
   .rcases l3 i 1 with h6|h6
    .rw[show i=0 by omega,show j=1 by omega];exact Jb.of Wa
    .rw[show i=j by omega];exact Jb.refl _
theorem HP{p:Array Nat}(hv:Val n p){k:Nat}(hk:k<n){Q:Nat->Shared->Prop}(hu:Jh key p k):∀(f l r:Nat) (s:Shared),r-l<=f->l<=r->r<=k->(∀i,i<l->Jb (Kp key p i) (Kp key p k))->(∀i,r<=i->i<k->Jb (Kp key p k) (Kp key p i))->P s->(∀l' s',l'<=k->(∀i,i<l'->Jb (Kp key p i) (Kp key p k))->(∀i,l'<=i->i<k->Jb (Kp key p k) (Kp key p i))->P s'->Q l' s')->(kas_place p k f l r).kasWp cmp Q s:=by
 intro f;induction f with
 |zero=>
  intro l r s h1 h2 h3 ha hb hp hQ;have:l=r:=by omega
  subst this;exact hQ l s h3 ha hb hp
 |succ f ih=>
  intro l r s h1 h2 h3 ha hb hp hQ;unfold kas_place;by_cases sJ:l≥r
  .rw[Q1 sJ];have:l=r:=by omega
   subst this;exact hQ l s h3 ha hb hp
  .rw[B2 sJ];refine hc _ _ (hv.lt hk) (hv.lt (by omega)) _ s hp λs' Be=>?_;cases hl:Tb (Kp key p k) (Kp key p ((l+r)/2))with
   |true=>have rf:Tb (key (p.getD k 0)) (key (p.getD ((l+r)/2) 0))=true:=hl;simp only[rf,↓reduceIte];exact ih l ((l+r)/2) s' (by omega) (by omega) (by omega) ha (λi h5 h6=>(Jb.of hl).trans (hu _ i h5 h6)) Be hQ
   |false=>have rf:Tb (key (p.getD k 0)) (key (p.getD ((l+r)/2) 0))=false:=hl;simp only[rf,o4,↓reduceIte];refine ih ((l+r)/2+1) r s' (by omega) (by omega) h3 (λi h5=>?_) hb Be hQ;exact(hu i ((l+r)/2) (by omega) (by omega)).trans hl
theorem IP{Q : Array Nat → Shared → Prop}: ∀ (f : Nat) (p : Array Nat) (k : Nat) (s : Shared), Val n p → k + f = n → Jh key p k → P s → (∀ p' s', Val n p' → Jh key p' n → P s' → Q p' s') → (kas_bin f p k).kasWp cmp Q s := by
  intro f
  induction f with
  | zero => intro p k s hv h1 hu hp hQ; have : k = n := by omega
            subst this; exact hQ p s hv hu hp
  | succ f ih =>
    intro p k s hv h1 hu hp hQ
    unfold kas_bin
    rw [KasT.kasWp_bind]
    refine HP hc hv (by omega) hu k 0 k s (by omega) (by omega) (O1 _) (λi h => by omega) (λi h h' => by omega) hp λl s' hl ha hb Be => ?_
    refine ih _ (k + 1) s' (hv.DP _ _) (by omega) (λi j Ge hj => ?_) Be hQ
    rw [QE hv (by omega) (by omega), QE hv (by omega) (by omega)]
    have e : k - (k - l) = l := by omega
    rw [e]
    by_cases i1 : i = l
    · rw [Q1 i1]
      by_cases j1 : j = l
      · rw [Q1 j1]; exact Jb.refl _
      · rw [B2 j1, Q1 (by omega)]
        exact hb (j - 1) (by omega) (by omega)
    · rw [B2 i1]
      by_cases i2 : l < i ∧ i ≤ k
      · rw [Q1 i2, B2 (by omega), Q1 (by omega)]
        exact hu _ _ (by omega) (by omega)
      · rw [B2 i2]
        by_cases j1 : j = l
        · rw [Q1 j1]; exact ha i (by omega)
        · rw [B2 j1]
          by_cases j2 : l < j ∧ j ≤ k
          · rw [Q1 j2]; exact hu _ _ (by omega) (by omega)
          · rw [B2 j2]; exact hu _ _ Ge (by omega)
theorem VE(h2:2<=n){Q:Array Nat->Shared->Prop}{s:Shared}(hp:P s)(hQ:∀p' s',Val n p'->Jh key p' n->P s'->Q p' s'):(kas_sort n).kasWp cmp Q s:=by
 unfold kas_sort;rw[KasT.kasWp_bind];have v0:Val n (List.toArray (List.range n)):=⟨by simp,by simp⟩
 refine GP hc v0 h2 hp λm p s' hv h1 hm hu Be=>?_;dsimp only;by_cases h:m<n
 .rw[Q1 h];exact IP hc _ p (max m 1) s' hv (by omega) (by rw[show max m 1=m by omega];exact hu) Be hQ
 .rw[B2 h];exact hQ p s' hv (by rw[show n=m by omega];exact hu) Be
end
end
section
open PySem.W PySem.MeetsSeq PySem.MeetsSeq3
theorem WE{vs:P0}{ns:K0}(h:IntsAre vs ns){i:Nat}(hi:i<vs.length):∃t,vs[i]=.int (ns.getD i 0) t/\i<ns.length:=by
 obtain⟨h1,rfl⟩:=Sk.mp h;have:=h1 _ (N3 hi);cases e:vs[i]with
 |int k t=>exact⟨t,by simp[List.getD,hi,e,Pp],by simpa using hi⟩
 |_=>rw[e]at this;exact this.elim
theorem qz{vs:P0}{ns:K0}(h:IntsAre vs ns):vs.length=ns.length:=by rw[(Sk.mp h).2];simp
theorem Gv{ns:K0}{i:Nat}(hi:i<ns.length):ns.drop i=ns.getD i 0::ns.drop (i+1):=by rw[D4 hi,K1,E1 hi];rfl
theorem JP(l b:Addr)(xs ys:Array Value)(n n2:Nat)(dd dd2:Option Addr)(sl sl2:Array (Option Value))(nx ny:K0)(hx:IntsAre xs.toList nx)(hy:IntsAre ys.toList ny)(k:Nat):∀i:Nat,xs.size-i=k->i<=xs.size->i<=ys.size->Meets (Builtin.«list.__eq__.loop» ⟨[.ref l,.ref b,rawInt i,rawInt 0],[]⟩) (λA R s=>s.heap.get? l=some { cls:=.type "list",dict:=dd,data:=.seq xs n,slots:=sl }/\s.heap.get? b=some { cls:=.type "list",dict:=dd2,data:=.seq ys n2,slots:=sl2 }/\R (.ok (.ret (.bool (Tb (nx.drop i) (ny.drop i))))) s):=by
 have lx:xs.size=nx.length:=by simpa using qz hx
 have ly:ys.size=ny.length:=by simpa using qz hy
 induction k with
 |zero=>
  intro i hk h1 h2 prog w A R s h;obtain⟨hp,g,d,tk,os⟩:=s;obtain⟨hl,hb,h⟩:=h
  wp_walk using T4 hl,T4 hb
  have Um:xs[((i:Nat):Int).toNat]?=none:=by simp;omega
  rw[Um];have e0:nx.drop i=[]:=by simp;omega
  rw[e0]at h;have fin:Tb [] (ny.drop i)=decide (xs.size<ys.size):=by
   rcases l3 i ys.size with h5|h5
   .rw[Gv (by omega)];simp only[Tb];exact(K2 (by omega)).symm
   .rw[L9 (by omega)];simp only[Tb];exact(O2 (by omega)).symm
  rw[fin]at h
  wp_walk using T4 hl,T4 hb
  exact h
 |succ k ih=>
  intro i hk h1 h2 prog w A R s h;obtain⟨hp,g,d,tk,os⟩:=s;obtain⟨hl,hb,h⟩:=h
  wp_walk using T4 hl,T4 hb
  have Wa:i<xs.size:=by omega
  have Um:xs[((i:Nat):Int).toNat]?=some xs[i]:=by simp[Wa]
  obtain⟨t1,q1,_⟩:=WE hx (i:=i) (by simpa using Wa);rcases l3 i ys.size with tJ|Ax
  .have Ho:ys[((i:Nat):Int).toNat]?=some ys[i]:=by simp[tJ]
   obtain⟨t2,q2,_⟩:=WE hy (i:=i) (by simpa using tJ);have YE:xs[i]=.int (nx.getD i 0) t1:=by simpa using q1
   have ZE:ys[i]=.int (ny.getD i 0) t2:=by simpa using q2
   have hc:((i:Int)+1)=((i+1:Nat):Int):=by push_cast;rfl
   rw[Gv (ns:=nx) (by omega),Gv (ns:=ny) (by omega)]at h;rw[Um,Ho,YE,ZE];refine X0 (w8 ?_);by_cases e:nx.getD i 0=ny.getD i 0
   .rw[Q1 (by simpa using e)];simp only[Tb,Q1 e]at h
    wp_walk
    rw[hc];exact⟨G6 plain_eq_loop _,E5 entry_eq_loop (by
     rw[c5 plain_eq_loop _];exact ih (i+1) (by omega) (by omega) (by omega) prog w A R _ ⟨hl,hb,h⟩)⟩
   .rw[B2 (by simpa using e)];simp only[Tb,B2 e]at h
    wp_walk using T4 hl,T4 hb
    rw[Um,Ho,YE,ZE];refine X0 (m:=richCompare .Lt _ _) (wpAny_lt_int (G1 h))
  .have Ho:ys[((i:Nat):Int).toNat]?=none:=N9 (by rw[W3];exact Ax);rw[Gv (ns:=nx) (by omega),L9 (l:=ny) (by omega)]at h;rw[Um,Ho];simp only[Tb]at h
   wp_walk using T4 hl,T4 hb
   rw[show false=decide (xs.size<ys.size)from(O2 (by omega)).symm]at h;exact h
section
variable{prog:Program}{w:World}{A:Around}{E:N0}{s:Shared}
noncomputable def Vg(h:Heap)(a:Addr)(ns:K0):Prop:=∃vs,h.IsList a vs/\IntsAre vs.toList ns
theorem Vg.keep{h h':Heap}{a:Addr}{ns:K0}(x:Vg h a ns)(k:∀o,h.get? a=some o->h'.get? a=some o):Vg h' a ns:=by obtain⟨vs,⟨o,ho,r⟩,hi⟩:=x;exact⟨vs,⟨o,k o ho,r⟩,hi⟩
theorem aF{l b:Addr}{nx ny:K0}{Q:N0}(hx:Vg s.heap l nx)(hy:Vg s.heap b ny)(h:Q (.bool (Tb nx ny)) s):wpAny (model prog w) A (call (.builtin "list.__lt__") [.ref l,.ref b]) Q E s:=by
 obtain⟨xs,⟨⟨cx,dx,CZ,KP⟩,LB,uJ,n,vJ⟩,ix⟩:=hx;obtain⟨ys,⟨⟨cy,dy,DZ,LP⟩,bF,wJ,n2,cF⟩,iy⟩:=hy;simp only at uJ vJ wJ cF;subst uJ vJ wJ cF;refine B6 (Y7 (a8).plain F.entry_list_lt ((a8).check _ _ _ _ _ _ _ _ ⟨_,LB,rfl⟩ (F.args_list_lt_2 _ _) ?_));have f3:=AutoSeq1.sub_list_list;obtain⟨hp,g,d,tk,os⟩:=s
 wp_walk using i9 LB,i9 bF
 exact⟨G6 plain_eq_loop _,E5 entry_eq_loop (by
  rw[c5 plain_eq_loop _];exact JP l b xs ys n n2 dx dy KP LP nx ny ix iy _ 0 rfl (V3 _) (V3 _) prog w A (wants Q E) _ ⟨LB,bF,h⟩)⟩
theorem MP{l b:Addr}{nx ny:K0}{Q:Bool->Shared->Prop}{t:Bool}(hu:A.units<cLine)(hx:Vg s.heap l nx)(hy:Vg s.heap b ny)(h:Q (Tb nx ny) s):wpAny (model prog w) A (oneLt' true (.ref l) (.ref b)) Q E s:=by
 rw[oneLt'_eq];simp only[M6];have hT:s.TypeIs (.ref l) "list":=by obtain⟨vs,⟨o,ho,hc,_⟩,_⟩:=hx;exact⟨o,ho,hc⟩
 refine X0 (wpAny_cRoomFor hu ?_);refine X0 (wpAny_callSpecialIfBound?_slot hT a8 (aF hx hy ?_));exact G5 h
end
end
section
open PySem.W
section
variable{prog:Program}{w:World}{A:Around}{E:N0}{s:Shared}
noncomputable def Pn(h:Heap)(vs:P0)(rs:J0):Prop:=vs.length=rs.length/\∀i,i<vs.length->∃b,vs.getD i .none=.ref b/\Vg h b (rs.getD i [])
theorem Pn.keep{h h':Heap}{vs:P0}{rs:J0}(x:Pn h vs rs)(k:∀b r,Vg h b r->∀o,h.get? b=some o->h'.get? b=some o):Pn h' vs rs:=
 ⟨x.1,λi hi=>let ⟨b,e,r⟩:=x.2 i hi;⟨b,e,r.keep (k b _ r)⟩⟩
theorem NP{M:Model}{h:Heap}{a:Addr}{ns:K0}(x:Vg h a ns):Looks M h (typeOf (.ref a)) (.type "list"):=by obtain⟨vs,⟨o,ho,hc,_⟩,_⟩:=x;exact λA Q E s k q=>K7 (T:="list") ⟨o,k _ _ ho,hc⟩ q
theorem getD_mem'{vs:P0}{v:Value}(h:v∈vs):∃i,i<vs.length/\vs.getD i .none=v:=by obtain⟨i,hi,e⟩:=R6 h;exact⟨i,hi,by rw[K1,E1 hi];exact e⟩
structure Ord(n:Nat)(key:Nat->K0)(p:List Nat):Prop where
 pm:p.Perm (List.range n)
 up:∀i j,i<=j->j<n->Jb (key (p.getD i 0)) (key (p.getD j 0))
theorem dF{n:Nat}{key:Nat->K0}{p:Array Nat}(hv:Val n p)(hu:Jh key p n):Ord n key p.toList:=
 ⟨hv.pm,λi j Ge hj=>by
  have e:∀k,p.toList.getD k 0=p.getD k 0:=λk=>by rw[getD_eq,K1,X7]
  rw[e,e];exact hu i j Ge hj⟩
theorem eF{n:Nat}{key:Nat->K0}(h:n<2):Ord n key (List.range n):=⟨.refl _,λi j Ge hj=>by rw[show i=j by omega];exact Jb.refl _⟩
theorem OP{a:Addr}{vs:P0}{rs:J0}{n:Nat}{P:PySem.Fin->Shared->Prop}(hu:A.units<cLine)(ho:s.heap.get? a=some (seqObj "list" vs.toArray n))(hr:Pn s.heap vs rs)(ic:∀v∈vs,v≠.ref a)(He:vs.length<64)(h:∀p h' c,Ord vs.length (λi=>rs.getD i []) p->h'.get? a=some (seqObj "list" (p.map λi=>vs.getD i .none).toArray c)->(∀b o,b≠a->s.heap.get? b=some o->h'.get? b=some o)->P (.done (.ret .none)) { s with heap:=h' }):wpAny (model prog w) A (Builtin.«list.sort» ⟨[.ref a],[]⟩) P E s:=by
 have Io:=M3;rw[list_sort_plain];refine X0 (x9 ho rfl ?_);refine X0 (K6 ho rfl ?_ (by rw[R1];omega) (V3 _));obtain⟨e1,au⟩:∃e1,(s.heap.update a (Obj.mapSeq λ_=>(#[]:Array Value))).get? a=some (seqObj "list" #[] e1):=⟨_,R5 ho λ_=>#[]⟩
 refine X0 (D8 au rfl (X0 (O8 ?_ (by show vs.length<=_;omega))));refine X0 (f7 (Y3 ?_) (V3 _));obtain⟨h3,e3⟩:∃h3,h3=((s.heap.update a (Obj.mapSeq λ_=>(#[]:Array Value))).push (seqObj "tuple" vs.toArray 0)).push (seqObj "list" #[] 0):=⟨_,rfl⟩
 have tz:h3.get? a=some (seqObj "list" #[] e1):=by rw[e3];exact B1 _ (B1 _ au)
 have oth:∀b o,b≠a->s.heap.get? b=some o->h3.get? b=some o:=λb o hb e=>by rw[e3];refine B1 _ (B1 _ ?_);rw[D2 _ _ (U3 hb)];exact e
 show wpAny _ _ _ _ _ { s with heap:=((s.heap.update a (Obj.mapSeq λ_=>(#[]:Array Value))).push (seqObj "tuple" vs.toArray 0)).push (seqObj "list" #[] 0) };rw[<-e3];have uz:Pn h3 vs rs:=⟨hr.1,λi hi=>by obtain⟨b,e,r⟩:=hr.2 i hi;refine⟨b,e,r.keep λo q=>oth b o (λhb=>?_) q⟩;subst hb;refine ic (.ref b) ?_ rfl;rw[<-e,K1,E1 hi];exact N3 hi⟩
 have fin:∀(st:SortSt) (p:List Nat),(arrOf st).map (·.2)=(p.map λi=>vs.getD i .none).toArray->failedOf st=none->Ord vs.length (λi=>rs.getD i []) p->wpAny (model prog w) A (do
   let touched:=(<-seqEpoch a) != e1
   Builtin.List.listUpdate (.ref a) λ_=>(arrOf st).map (·.2)
   if let some e:=failedOf st then rule "list.sort.comparison-raised";throw e
   if touched then rule "list.sort.modified";raiseError "ValueError" "list modified during sort"
   ret .none) P E { s with heap:=h3 }:=by
  intro st p MB hf ng;have hlen:p.length=vs.length:=by rw[ng.pm.length_eq];simp
  refine X0 (D8 tz rfl ?_);rw[MB];refine X0 (K6 tz rfl ?_ (V3 _) (by rw[R1,Y0];omega));rw[hf];simp only[Zau,o4,r6];refine G1 (h p _ _ ng (R5 tz (λ_=>(p.map λi=>vs.getD i .none).toArray)) λb o hb e=>?_);rw[D2 _ _ (U3 hb)];exact oth b o hb e
 by_cases h2:vs.toArray.size<2
 .rw[Q1 h2,Q1 h2];refine X0 (G1 ?_);dsimp only;rw[StateT.run_pure];refine X0 (G1 ?_);have hz:vs.length<2:=by simpa using h2
  refine fin (SortSt.mk' general' (vs.toArray.zip vs.toArray) #[] 7 none) (List.range vs.length) ?_ rfl (eF hz);show(vs.toArray.zip vs.toArray).map (·.2)=_
  match vs,hz with
  |[],_=>simp
  |[v],_=>simp
 .rw[B2 h2,B2 h2];have hz:2<=vs.length:=by simp at h2;exact h2
  refine X0 (kas_kind (T:=.type "list") hz (λv hv=>?_) (by decide) (by decide) ?_)
  .obtain⟨i,hi,rfl⟩:=getD_mem' hv;obtain⟨b,e,r⟩:=uz.2 i hi;rw[e];exact NP r
  have est:SortSt.mk' oneType' (vs.toArray.zip vs.toArray) #[] 7 none=kas_st oneType' (pairsOf vs) (List.toArray (List.range vs.length)):=by have e:=kas_range (pairsOf vs);rw[pairsOf_size]at e;show SortSt.mk' oneType' (pairsOf vs) #[] 7 none=SortSt.mk' oneType' ((List.toArray (List.range vs.length)).map (kas_item (pairsOf vs))) #[] 7 none;rw[e]
  have run:=kas_runs (prog:=prog) (w:=w) (A:=A) (E:=E) (κ:=oneType') (it:=pairsOf vs) (s:={ s with heap:=h3 }) (Q:=λ_ st' s'=>s'={ s with heap:=h3 }/\∃p:List Nat,(arrOf st').map (·.2)=(p.map λi=>vs.getD i .none).toArray/\failedOf st'=none/\Ord vs.length (λi=>rs.getD i []) p)
   (G:=λp s'=>s'={ s with heap:=h3 }/\Ord vs.length (λi=>rs.getD i []) p.toList) hz He (λp' st' s' a1 a2 a3 a4=>⟨a4.1,p'.toList,?_,a3,a4.2⟩)
   (VE (P:=λs'=>s'={ s with heap:=h3 }) (key:=λi=>rs.getD i []) (λi j hi hj C s' qi hC=>?_) hz rfl λp' s' hv hu qi=>⟨qi,dF hv hu⟩)
  .rw[<-est]at run;refine X0 (K3 run ?_ λ_ _ e=>e);rintro⟨⟨⟩,st'⟩ s' ⟨rfl,p,hp,hf,ng⟩;exact fin st' p hp hf ng
  .apply Array.toList_inj.mp;rw[a2,Array.map_map,Array.toList_map];exact M5 λi _=>by show(kas_item (pairsOf vs) i).2=_;rw[kas_item_eq]
  .subst qi;obtain⟨b1,q1,r1⟩:=uz.2 i hi;obtain⟨b2,q2,r2⟩:=uz.2 j hj;show wpAny (model prog w) A (keyLt' oneType' (kas_item (pairsOf vs) i).1 (kas_item (pairsOf vs) j).1) C (λ_ _=>False) _;rw[kas_item_eq,kas_item_eq,keyLt'_oneType];show wpAny (model prog w) A (oneLt' true (vs.getD i .none) (vs.getD j .none)) C (λ_ _=>False) _;rw[q1,q2];exact MP (t:=true) hu r1 r2 (hC _ rfl)
theorem PP{l:Addr}{vs:P0}{rs:J0}{Q:N0}(hu:A.units+4<cLine)(hl:s.heap.IsList l vs.toArray)(hr:Pn s.heap vs rs)(He:vs.length<64)(h:∀p h' c D,Ord vs.length (λi=>rs.getD i []) p->s.heap.objs.size<=D->h'.get? D=some (seqObj "list" (p.map λi=>vs.getD i .none).toArray c)->(∀b o,s.heap.get? b=some o->h'.get? b=some o)->Q (.ref D) { s with heap:=h' }):wpAny (model prog w) A (call (.builtin "sorted") [.ref l]) Q E s:=by
 have Io:=M3;refine Y8 U9 w9 y9 (args_sorted1 _) ?_;unfold Builtin.«sorted»;refine X0 (m:=checkCount "sorted" 1 1 _) (G1 (X0 (collect_list hl ?_ (by omega))));refine X0 (f7 ?_ (by omega));obtain⟨h2,e2⟩:∃h2,h2=(s.heap.push (seqObj "list" #[] 0)).update s.heap.objs.size (Obj.mapSeq (·++vs.toArray)):=⟨_,rfl⟩
 have Qp:h2.objs.size=s.heap.objs.size+1:=by rw[e2,C8,Zae]
 have wm:∀b o,s.heap.get? b=some o->h2.get? b=some o:=λb o e=>by rw[e2,D2 _ _ (a6 (N1 e))];exact B1 _ e
 show wpAny _ _ _ _ _ { s with heap:=((s.heap.push (seqObj "list" #[] 0)).update s.heap.objs.size (Obj.mapSeq (·++vs.toArray))).push (seqObj "list" vs.toArray 0) };rw[<-e2];have g3:(h2.push (seqObj "list" vs.toArray 0)).get? h2.objs.size=some (seqObj "list" vs.toArray 0):=Z1 _ rfl;have Hv:∀b o,s.heap.get? b=some o->(h2.push (seqObj "list" vs.toArray 0)).get? b=some o:=λb o e=>B1 _ (wm b o e);refine X0 (Y3 (O5 Q8 ⟨_,g3,rfl⟩ F8 ?_ (args_list_sort _)));have NB:A.in1.in1.units<cLine:=by
  have:A.in1.in1.units<=A.units+4:=by simp[Around.in1]
  omega
 refine OP (s:={ s with heap:=h2.push (seqObj "list" vs.toArray 0) }) NB g3 (hr.keep λb r _ o e=>Hv b o e) (λv hv e=>?_) He λp h' c hp hg hk=>⟨_,rfl,G1 ⟨_,rfl,h p h' c _ hp (by show s.heap.objs.size<=h2.objs.size;omega) hg λb o e=>hk b o ?_ (Hv b o e)⟩⟩
 .obtain⟨i,hi,q⟩:=getD_mem' hv;obtain⟨b,e',vs',⟨o,ho,_⟩,_⟩:=hr.2 i hi;rw[q,e]at e';injection e' with e';have h9:b<s.heap.objs.size:=N1 ho;rw[<-e']at h9;exact O4 _ (Y1 h9 (by show s.heap.objs.size<=h2.objs.size;omega))
 .have:=N1 e;exact J2 (by rw[Qp];exact c7 this)
end
end
noncomputable def QP(K:Frag)(f:Ex):TE:=λσ H Q=>∃BF BH F env L ds,lb K BF BH F H σ env L/\f env=some (.lst ds)/\
 ∀a vs F' H',Ext F H F' H'->H a=none->H' a=some (.lst vs)->F' a=none->Nb (cut F' BH) ds vs->Q (.ref a) H'
structure Tp(X:Cx)(e:Expr)(f:Ex):Prop where
 h:PE X e (QP X.K f)
theorem RP{f:Ex}{env:Env}{d:D}(h:yh f env=some d):∃ds,f env=some (.lst ds)/\d=.lst ds/\ds.all xh=true:=by
 unfold yh at h;split at h
 .rename_i ds e;split at h
  .rename_i hs;cases h;exact⟨ds,e,rfl,hs⟩
  .cases h
 .cases h
section
variable{X:Cx}{m m1 m2:Md}{r:Mc}{a b e:Expr}{es:T0}{f g:Ex}{fs:List Ex}{t:Tx}{pos pos' p p2:Pos}
theorem ze.fl(h:ze X m e f):ae X e (yh f):=⟨PE.of h λσ H Q Ca=>Cb Ca λBF BH F env L d S e q=>by obtain⟨ds,e1,rfl,hs⟩:=RP e;refine⟨BF,BH,F,env,L,ds,S,e1,λa vs F' H' z h0 h1 h2 r=>?_⟩;have y:Ext F H (upd F' a (.lst vs)) H':=z.Tc h0 h1 h2;refine q _ _ H' y ?_;simp only[zc];exact⟨a,vs,rfl,by rw[Mk h0];exact Lb,oz hs r⟩⟩
theorem vz:Tp X (.List [] pos) (Xa []):=⟨PE.of (Eh (m:=.k) (pos:=pos) (X:=X) Ea) λσ H Q Ca=>Cb Ca λBF BH F env L ds S e q=>by refine⟨BF,BH,F,env,L,ds,S,e,λa vs F' H' z h0 h1 h2 r=>q a vs F' H' z h0 h1 h2 ?_⟩;cases e;simp only[Ba,Nb]at r |-;exact r⟩
theorem UP(ha:Ug X e f)(hs:Zb e=true:=by rfl):Tp X (.List [e] pos) (Xa [f]):=⟨PE.of (mC (jd ha.h Sd (Gd hs))) λσ H Q Ca=>Cb Ca λBF BH F env L ds S e q=>by
 unfold Xa evs evs at e;cases h1:f env with
 |none=>rw[h1]at e;cases e
 |some d=>rw[h1]at e;cases e;refine⟨BF,BH,F,env,L,d,S,h1,λv F' H' z r=>⟨by rw[M3];simp,λp hp=>?_⟩⟩;have y:=z.trans (Ext.own (o:=HO.lst [v]) z.fh hp);refine q p [v] F' _ y (z.hh.free hp) Lb (z.fh.free hp) ?_;simp only[Nb];exact⟨v,[],rfl,r,rfl⟩⟩
theorem Tp.n(h:Tp X e f)(hf:∀env d,f env=some d->∃ds,d=.lst ds):Ug X e f:=⟨PE.of h.h λσ H Q Ca=>Cb Ca λBF BH F env L d S e q=>by
 obtain⟨ds,rfl⟩:=hf env d e;refine⟨BF,BH,F,env,L,ds,S,e,λa vs F' H' z h0 h1 h2 r=>?_⟩;have y:Ext F H (upd F' a (.lst vs)) H':=z.Tc h0 h1 h2;refine q _ _ H' y ?_;simp only[zc];refine⟨a,vs,rfl,by rw[Mk (S.s0.free h0)];exact Lb,Nb.mono (jm λb o hb=>?_) _ _ r⟩;have ic:b≠a:=λe=>by rw[e,h2]at hb;cases hb
 rw[rb ic];exact hb⟩
theorem VP{K:Frag}{BF BH F F' H H':Hp}{σ:L2.St}{env:Env}{L:Nat->R0}(S:lb K BF BH F H σ env L)(z:Ext F H F' H')(i:Nat){p:Addr}{vs:U0}{ds:W0}(h0:H p=none)(h1:H' p=some (.lst vs))(h2:F' p=none)(r:Nb (cut F' BH) ds vs):lb K BF BH F' H' (σ.set i (some (.ref p))) (env.set i (.nw ds)) (putL L i [p]):=
 (S.ext z).set i ⟨p,vs,rfl,rfl,h1,r⟩ (λa h=>by
  rw[d4]at h;subst h;exact⟨h2,S.s0.free h0,by rw[h1];simp⟩) (λa h j hj hm=>by
  rw[d4]at h;subst h;exact(S.ow j a hm).2.2 h0)
theorem Iv(nd:X.N.Nodup)(i:Nat){x:Str}(ha:Tp X e f)(hi:X.N[i]?=some x:=by kernel_rfl)(hx:zg X.env.scope x=true:=by kernel_rfl)(hs:swapsWith e (some (.Name x pos')) pos.line X.env=pure false:=by rfl)(hf:Bg X x=true:=by kernel_rfl):Rb X r (.Assign [.Name x pos'] e pos) (sNew i f):=
 Rb.mk<|PS.of (Zm nd hi (Bh hx) ha.h hs (Dh hf)) λD0 σ H Ca=>qd Ca λBF BH F env L o Oa S e k=>by
  unfold sNew at e;split at e
  .rename_i ds h1;cases e;exact⟨BF,BH,F,env,L,ds,S,h1,λp vs F' H' z h0 h2 h3 r=>k F' H' _ _ (VP S z i h0 h2 h3 r) z.ff⟩
  .cases e
theorem fF{K:Frag}{BF BH F H:Hp}{σ:L2.St}{env:Env}{L:Nat->R0}(S:lb K BF BH F H σ env L){i:Nat}{ds:W0}(h:env[i]?=some (.nw ds)):∃p vs,σ[i]?=some (some (.ref p))/\L i=[p]/\H p=some (.lst vs)/\Nb (cut F BH) ds vs:=by obtain⟨ov,h1,h2⟩:=S.sl i _ h;obtain⟨p,vs,rfl,h3,h4,h5⟩:=h2;exact⟨p,vs,h1,h3,h4,h5⟩
theorem gF{H:Hp}:∀{ds es:W0} {vs ws:U0},Nb H ds vs->Nb H es ws->Nb H (ds++es) (vs++ws)
 |[],es,vs,ws,h,k=>by simp only[Nb]at h;subst h;exact k
 |d::ds,es,vs,ws,h,k=>by simp only[Nb]at h;obtain⟨v,r,rfl,h2,h3⟩:=h;show Nb H (d::(ds++es)) (v::(r++ws));simp only[Nb];exact⟨v,_,rfl,h2,gF h3 k⟩
theorem Nb.len{H:Hp}:∀{ds:W0} {vs:U0},Nb H ds vs->ds.length=vs.length
 |[],vs,h=>by simp only[Nb]at h;subst h;rfl
 |d::ds,vs,h=>by simp only[Nb]at h;obtain⟨v,r,rfl,h2,h3⟩:=h;simp[h3.len]
theorem Jv(i:Nat){x:Str}{p1 p2 p3 p4:Pos}(ha:Ug X e f)(hN:X.N[i]?=some x:=by kernel_rfl)(hv:Ee X.env.scope x=true:=by kernel_rfl)(hd:(x==("__debug__":Str))=false:=by kernel_rfl)(Mb:(x==("__classdict__":Str))=false:=by kernel_rfl)(Sc:Zb e=true:=by rfl)(gf:attributeBase (.Name x p1) "append" X.env (eval (.Name x p1) X.env)=eval (.Name x p1) X.env:=by rfl)(jf:(p2.endLine==p3.line)=true:=by rfl)(Kf:swapsWith (.Call (.Attribute (.Name x p1) "append" p2) [e] [] p3) none p4.line X.env=pure false:=by rfl):Rb X r (.Expr (.Call (.Attribute (.Name x p1) "append" p2) [e] [] p3) p4) (Ai i f):=
 Rb.mk<|PS.of (Po (Ek m4 c9 b9 jy (kf hN (Cf hv) hd Mb) (jd ha.h Sd (Gd Sc)) gf (by rw[Kj (Lj Sc)];rfl) jf (Pc Sc) rfl) Kf) λD0 σ H Ca=>qd Ca λBF BH F env L o Oa S e k=>by
  unfold Ai at e;split at e
  .rename_i ds d he h1;split at e
   .rename_i hlen;cases e;obtain⟨p,vs,hσ,hl,hp,rr⟩:=fF S he;refine⟨_,hσ,Jp hp,BF,BH,F,env,L,d,S,h1,λv F' H' z rv=>?_⟩;have S':=S.ext z;have r':Nb (cut F' BH) (ds++[d]) (vs++[v]):=gF (Nb.mono (jm z.ff) _ _ rr) (by simp only[Nb];exact⟨v,[],rfl,rv,rfl⟩);refine⟨p,vs,v,rfl,rfl,z.hh _ _ hp,by rw[<-rr.len];exact Y1 hlen Pr,?_⟩;refine k F' _ σ L (S'.own (i:=i) (a:=p) (by rw[hl];simp) _ λs ov h1 h2 h3=>?_) z.ff;rw[hσ]at h2;cases h2;exact⟨p,_,rfl,hl,Lb,r'⟩
   .cases e
  .cases e
end
section
variable{X:Cx}{m m1 m2:Md}{r:Mc}{a b e:Expr}{es:T0}{f g:Ex}{fs:List Ex}{t:Tx}{pos pos' p p2:Pos}
theorem WP{pins:M0}{σ:L2.St}{H:Hp}{s:Shared}(I:Inv X pins σ H s):∀{vs:U0} {us:P0} {rs:J0},Vals vs us->(vs.length=rs.length/\∀i,i<vs.length->∃b,vs[i]?=some (.ref b)/\Cc X.K H b ((rs.getD i []).map V.int))->Pn s.heap us rs:=by intro vs us rs hv ⟨h1,h2⟩;have hl:=hv.length;refine⟨by rw[<-hl];exact h1,λi hi=>?_⟩;obtain⟨b,e,hS⟩:=h2 i (by omega);obtain⟨u,hu,ru⟩:=hv.get e;cases ru;refine⟨b,by rw[K1,hu];rfl,?_⟩;obtain⟨its,r,p,z⟩:=I.list hS;exact⟨_,p.isList,by simpa using Tl r⟩
noncomputable def ZP(K:Frag):U0->Hp->VK->Prop:=λxs H Q=>
 (∃(l:Addr) (ns:K0),xs=[.ref l]/\Cc K H l (ns.map V.int)/\ns.length<64/\∀q,H q=none->Q (.ref q) (upd H q (.lst ((Wc ns).map V.int))))\/
 (∃(l:Addr) (vs:U0) (rs:J0),xs=[.ref l]/\Cc K H l vs/\(vs.length=rs.length/\∀i,i<vs.length->∃b,vs[i]?=some (.ref b)/\Cc K H b ((rs.getD i []).map V.int))/\vs.length<64/\
  ∀q p,H q=none->Ord vs.length (λi=>rs.getD i []) p->Q (.ref q) (upd H q (.lst (p.map λi=>vs.getD i .non))))
theorem wz{vs:U0}{us:P0}(h:Vals vs us):∀(p:List Nat),(∀i∈p,i<vs.length)->Vals (p.map λi=>vs.getD i .non) (p.map λi=>us.getD i .none)
 |[],_=>.nil
 |i::p,hp=>by have hi:=hp i W1;obtain⟨u,hu,ru⟩:=h.get (i:=i) (x:=vs.getD i .non) (by simp[List.getD,hi]);refine .cons ?_ (wz h p λj hj=>hp j (M1 _ hj));show RelV (vs.getD i .non) (us.getD i .none);rw[K1 (l:=us),hu];exact ru
theorem aQ(hu:X.A.units+64<cLine):Ze X (.builtin "sorted") (ZP X.K):=by
 intro pins s σ H xs us Q I r h;rcases h with⟨l,ns,rfl,hS,He,k⟩|⟨l,vs,rs,rfl,hS,hR,He,k⟩
 .obtain⟨u,rfl,ru⟩:=r.one;cases ru;obtain⟨its,rv,pl,z⟩:=I.list hS;have hi:=Tl rv;have hl:=qz hi;refine sorted_ints pl.isList hi (by omega) λout ns' a1 a2 a3=>?_;have ej:ns'=Wc ns:=ZC a2 a3;obtain⟨c,hc⟩:=sortedAll_at s.heap its out;have I2:=I.laid (a:=s.heap.objs.size+1) (o:=.lst ((Wc ns).map V.int)) (h':=sortedAll s.heap its out) (t':=s.toks) (λb u e=>sortedAll_old e) (m5 _) ⟨by rw[Y0,(Af _).length_eq,M3];omega,out.toList,c,ej▸pz a1,by simpa using hc⟩;exact⟨.ref _,_,I2,rfl,k _ (I.Va.fresh (m5 _))⟩
 .obtain⟨u,rfl,ru⟩:=r.one;cases ru;obtain⟨its,rv,pl,z⟩:=I.list hS;have hl:=rv.length;refine PP (by omega) pl.isList (WP I rv hR) (by omega) λp h' c D hp hD hg hk=>?_;rw[<-hl]at hp;have Wa:∀i∈p,i<vs.length:=λi hi=>by simpa using hp.pm.mem_iff.mp hi
  have I2:=I.laid (a:=D) (o:=.lst (p.map λi=>vs.getD i .non)) (h':=h') (t':=s.toks) hk hD ⟨by rw[Y0,hp.pm.length_eq,t8,M3];omega,_,c,wz rv p Wa,hg⟩;exact⟨.ref D,_,I2,rfl,k D p (I.Va.fresh hD) hp⟩
theorem iF{α:Type}(l:List α)(d:α):(List.range l.length).map (λi=>l.getD i d)=l:=by
 apply C7
 .simp
 .intro i h1 h2;simp at h1;simp[List.getD,h1]
theorem bQ{rs:J0}{p:List Nat}(h:Ord rs.length (λi=>rs.getD i []) p):p.map (λi=>rs.getD i [])=vh (λr=>r) rs:=by
 have hlen:p.length=rs.length:=by rw[h.pm.length_eq];simp
 have p1:(p.map λi=>rs.getD i []).Perm rs:=by
  have:=h.pm.map λi=>rs.getD i []
  rwa [iF]at this
 refine(p1.trans (Uh _ rs).symm).eq_of_pairwise (λx y _ _ h1 h2=>Jb.anti h1 h2) ?_ (pr (λr=>r) rs);rw[e6];intro i j hi hj Ge;simp only[Y0]at hi hj;have:=h.up i j (U6 Ge) (by omega);simpa[List.getD,hi,hj]using this
theorem cQ{d:D}{r:K0}(h:Mg d=some r):d=ma r:=by
 cases d with
 |lst xs=>simp only[Mg]at h;rw[ints_of h];rfl
 |_=>simp[Mg]at h
theorem jF:∀{xs:W0} {rs:J0},mn xs=some rs->xs=rs.map ma
 |[],rs,h=>by simp only[mn]at h;cases h;rfl
 |x::xs,rs,h=>by
  simp only[mn]at h;split at h
  .rename_i r q h1 h2;cases h;rw[cQ h1,jF h2];rfl
  .cases h
theorem kF{K:Frag}{H:Hp}{ds:W0}{vs:U0}(h:Ba K H ds vs):∀(p:List Nat),(∀i∈p,i<vs.length)->Ba K H (p.map λi=>ds.getD i .non) (p.map λi=>vs.getD i .non)
 |[],_=>Ba.nil
 |i::p,hp=>by have hi:=hp i W1;obtain⟨d,hd,rd⟩:=h.Ap (i:=i) (v:=vs.getD i .non) (by simp[List.getD,hi]);refine Ba.cons ?_ (kF h p λj hj=>hp j (M1 _ hj));show Rep K H (ds.getD i .non) (vs.getD i .non);rw[K1 (l:=ds),hd];exact rd
theorem xz{p:Pos}(T:Bt X.mg)(hu:X.A.units+64<cLine)(ha:PD X m a f)(hg:X.env.kindOf "sorted"=some .globalImplicit:=by kernel_rfl)(hs:Zb a=true:=by rfl):ze X m (.Call (.Name "sorted" p) [a] [] pos) (za Ng f):=
 PE.of (Xq (aQ hu) hg T.sorted V9 (jd ha.h Sd (Gd hs)) (by decide) (by decide) (Pc hs) rfl) λσ H Q Ca=>Cb Ca λBF BH F env L ds S e q=>by
  unfold za at e;split at e
  .rename_i x hx;refine⟨BF,BH,F,env,L,x,S,hx,λv F' H' z rx=>?_⟩;have hm:=Bp (BH:=BH) z.fh m;unfold Ng at e;split at e
   .rename_i xs;simp only[Rep]at rx;obtain⟨l,vs,rfl,hS,hr⟩:=rx;split at e
    .rename_i ns hn;split at e
     .rename_i He;cases e;have ex:=ints_of hn;subst ex;have ev:=As hr;subst ev;refine .inl ⟨l,ns,rfl,hm.seq hS,He,λp hp=>?_⟩;obtain⟨y2,h0,h2,s⟩:=rm (m:=m) S z hp (HO.lst ((Wc ns).map V.int));exact q p _ F' _ y2 h0 Lb h2 (Ba.ints _)
     .cases e
    .split at e
     .rename_i rs Bo;split at e
      .rename_i He;cases e;have ex:=jF Bo;subst ex;have hl:vs.length=rs.length:=by rw[<-hr.length];simp
       refine .inr ⟨l,vs,rs,rfl,hm.seq hS,⟨hl,λi hi=>?_⟩,by omega,λp ps hp ng=>?_⟩
       .obtain⟨v,hv,rv⟩:=hr.get (i:=i) (d:=ma (rs.getD i [])) (by simp[List.getD,show i<rs.length by omega]);simp only[ma,Rep]at rv;obtain⟨b,ws,rfl,hS2,LY⟩:=rv;have ew:=As LY;subst ew;exact⟨b,hv,hm.seq hS2⟩
       .have Wa:∀i∈ps,i<vs.length:=λi hi=>by simpa using ng.pm.mem_iff.mp hi
        obtain⟨y2,h0,h2,s⟩:=rm (m:=m) S z hp (HO.lst (ps.map λi=>vs.getD i .non));refine q p _ F' _ y2 h0 Lb h2 ?_;have e3:(vh (λr=>r) rs).map (λr=>D.lst (r.map .int))=ps.map λi=>(rs.map ma).getD i .non:=by
         rw[<-bQ (by rw[<-hl];exact ng),i4];refine M5 λi hi=>?_;have Eo:i<rs.length:=by rw[<-hl];exact Wa i hi
         simp[List.getD,Eo,ma]
        rw[e3];exact Ba.mono s _ _ (kF hr ps Wa)
      .cases e
     .cases e
   .cases e
  .cases e
theorem dQ{env:Env}{d:D}(h:za Ng f env=some d):∃ds,d=.lst ds:=by
 unfold za at h;split at h
 .unfold Ng at h;split at h
  .split at h
   .split at h
    .cases h;exact⟨_,rfl⟩
    .cases h
   .split at h
    .split at h
     .cases h;exact⟨_,rfl⟩
     .cases h
    .cases h
  .cases h
 .cases h
theorem Kv{p:Pos}(T:Bt X.mg)(hu:X.A.units+64<cLine)(ha:PD X m a f)(hg:X.env.kindOf "sorted"=some .globalImplicit:=by kernel_rfl)(hs:Zb a=true:=by rfl):PD X m (.Call (.Name "sorted" p) [a] [] pos) (za Ng f):=(xz T hu ha hg hs).d λenv d h=>dQ h
theorem any_range:∀bs:List Bool,(List.range bs.length).any (λj=>bs.getD j false)=bs.any λb=>b
 |[]=>rfl
 |b::bs=>by have ih:=any_range bs;rw[W4,P7,o5,List.any_map,o5,<-ih];rfl
theorem eQ(hc:X.calm=true):Ze X (.builtin "any") (λxs H Q=>∃(p:Addr) (bs:List Bool),xs=[.ref p]/\Cc X.K H p (bs.map V.bl)/\Q (.bl (bs.any λb=>b)) H):=by
 intro pins s σ H xs us Q I r h;obtain⟨p,bs,rfl,hq,q⟩:=h;obtain⟨u,rfl,ru⟩:=r.one;cases ru;obtain⟨its,rv,pl,hz⟩:=I.list hq;have Wa:p<s.heap.objs.size:=by obtain⟨o,e,_⟩:=pl.isList;exact N1 e
 have hlen:its.length=bs.length:=by have:=rv.length;rw[Y0]at this;exact this.symm
 refine call_any_walk (b7 pl.isList ⟨s.heap.objs.size,_,_,_,_,_,λj=>bs.getD j false,rfl,Zag (show(X.A.in1).handled=none from I.ok.hd hc) s.heap.objs.size p (J2 Wa) its.toArray,⟨⟨_,Z1 _ rfl,rfl,rfl⟩,pl.isList.push _⟩,?_,λh' tk hk=>?_⟩)
 .intro i v s' Q' E' hP Ni;have hj:its[i]?=some v:=by simpa using hP
  have Vt:i<bs.length:=by rw[<-hlen];exact(P1.mp hj).1
  obtain⟨w,h1,h2⟩:=rv.get (i:=i) (x:=V.bl bs[i]) (by simp[Vt]);rw[hj]at h1;cases h1;have e:v=.bool (bs.getD i false):=by have:v=.bool bs[i]:=h2;rw[this];simp[List.getD,Vt]
  subst e;exact G5 Ni
 .rw[R1,hlen,any_range];refine⟨.bl _,H,I.kept (h':=h') (t':=tk) λb o eo=>?_,rfl,q⟩;exact hk b o (by simp;exact J2 (N1 eo)) (B1 _ eo)
theorem lF{K:Frag}{H:Hp}:∀{xs:W0} {vs:U0} {b:Bool},anyB xs=some b->Ba K H xs vs->∃bs:List Bool,vs=bs.map V.bl/\(bs.any λb=>b)=b
 |[],vs,b,h,r=>by simp only[Ba]at r;subst r;cases h;exact⟨[],rfl,rfl⟩
 |.bl c::xs,vs,b,h,r=>by
  simp only[Ba]at r;obtain⟨v,t,rfl,h1,h2⟩:=r;simp only[anyB]at h;cases e:anyB xs with
  |none=>rw[e]at h;cases h
  |some d=>rw[e]at h;cases h;obtain⟨bs,rfl,rfl⟩:=lF e h2;obtain rfl:=Ep h1;exact⟨c::bs,rfl,rfl⟩
 |.non::_,_,_,h,_=>by simp[anyB]at h
 |.int _::_,_,_,h,_=>by simp[anyB]at h
 |.str _::_,_,_,h,_=>by simp[anyB]at h
 |.lst _::_,_,_,h,_=>by simp[anyB]at h
 |.tup _::_,_,_,h,_=>by simp[anyB]at h
 |.dct _::_,_,_,h,_=>by simp[anyB]at h
theorem fQ{p:Pos}(T:Bt X.mg)(ha:PD X m1 a f)(hc:X.calm=true:=by rfl)(hg:X.env.kindOf "any"=some .globalImplicit:=by kernel_rfl)(hs:Zb a=true:=by rfl):PD X m (.Call (.Name "any" p) [a] [] pos) (za ir f):=
 dv (eQ hc) T.any boot_any (λd y H' v Q e r k=>by
  unfold ir at e;split at e
  .split at e
   .rename_i b hb;cases e;simp only[Rep]at r;obtain⟨p,vs,rfl,s1,t1⟩:=r;obtain⟨bs,rfl,rfl⟩:=lF hb t1;exact⟨⟨p,bs,rfl,s1,k _ (by simp[Rep])⟩,rfl⟩
   .cases e
  .cases e) ha hg (by decide) (by decide) hs
end
theorem lb.drop{K:Frag}{BF BH F H:Hp}{σ:L2.St}{env:Env}{L:Nat->R0}(S:lb K BF BH F H σ env L)(i:Nat):lb K BF BH F H σ (env.set i .un) (putL L i []) where
 s0:=S.s0
 f0:=S.f0
 fh:=S.fh
 fd:=S.fd
 ow:=λj a h=>by
  by_cases hj:j=i
  .subst hj;rw[Yi]at h;cases h
  .rw[ai hj]at h;exact S.ow j a h
 dj:=λj k a h1 h2=>by
  by_cases hj:j=i
  .subst hj;rw[Yi]at h1;cases h1
  .by_cases hk:k=i
   .subst hk;rw[Yi]at h2;cases h2
   .rw[ai hj]at h1;rw[ai hk]at h2;exact S.dj j k a h1 h2
 len:=by rw[P2];exact S.len
 sl:=λj s' h=>by
  by_cases hj:i=j
  .subst hj;have Wa:i<env.length:=by have:=(P1.mp h).1;rwa [P2]at this
   rw[W2 Wa]at h;cases h;obtain⟨ov,h1,_⟩:=S.sl i env[i] (by simp[Wa]);exact⟨ov,h1,trivial⟩
  .rw[Q2 hj]at h;obtain⟨ov,h1,h2⟩:=S.sl j s' h;exact⟨ov,h1,by rw[ai (U3 hj)];exact h2⟩
noncomputable def Qj(φ:V0):D->Option D
 |.lst xs=>match Bj φ xs with
  |some ks=>if ks.length<64/\(ks.map (·.1)).Nodup then some (.lst ((vh (λp:K0×D=>p.1) ks).map λp=>p.2))else none
  |none=>none
 |_=>none
noncomputable def Up(i:Nat):Ex:=λenv=>match env[i]? with
 |some (.nw ds)=>some (.lst ds)
 |_=>none
section
open PySem.W
section
variable{prog:Program}{w:World}{A:Around}{E:N0}{s:Shared}
noncomputable def Vp(h:Heap)(v:Value)(n:Int)(r:K0):Prop:=∃a o c b tk,v=.ref a/\h.get? a=some o/\o.cls=.type "tuple"/\o.data=.seq #[.int n tk,.ref b] c/\Vg h b r
theorem mF{s:Shared}:∀{its:P0} {ns:K0},IntsAre its ns->Qb s (ns.map D.int) its
 |_,_,.nil=>by simp[Qb]
 |_,_,.cons n t h=>by simp only[V1,Qb,Hr];exact⟨_,_,rfl,⟨t,rfl⟩,mF h⟩
theorem oF{b:Addr}{r:K0}(h:Vg s.heap b r):Hr s (ma r) (.ref b):=by obtain⟨x,l,i⟩:=h;simp only[ma,Hr];exact⟨b,x.toList,rfl,by simpa using l,mF i⟩
theorem gQ{b1 b2:Addr}{r1 r2:K0}{Q:Bool->Shared->Prop}(hu:A.units<cLine)(h1:Vg s.heap b1 r1)(h2:Vg s.heap b2 r2)(h:Q (Tb r1 r2) s):wpAny (model prog w) A (oneLt' false (.ref b1) (.ref b2)) Q E s:=by
 have ty:∀{b:Addr} {r:K0},Vg s.heap b r->s.TypeIs (.ref b) "list":=λh=>by obtain⟨vs,⟨o,ho,hc,_⟩,_⟩:=h;exact⟨o,ho,hc⟩
 refine kat_one _ _ (show wpAny (model prog w) A (richCompare .Lt (.ref b1) (.ref b2)) (PySem.W.BoolBack Q) E s from ?_);exact wpAny_richCompare_same_or (op:=.Lt) (ty h1) (ty h2) a8 (aF h1 h2 ⟨by simp,h⟩) (.inr hu)
theorem iQ{v1 v2:Value}{n1 n2:Int}{r1 r2:K0}{Q:Bool->Shared->Prop}(hu:A.units+8<cLine)(h1:Vp s.heap v1 n1 r1)(h2:Vp s.heap v2 n2 r2)(h:Q (Tb (n1::r1) (n2::r2)) s):wpAny (model prog w) A (keyLt' (tuples' true) v1 v2) Q E s:=by
 obtain⟨a1,o1,c1,b1,t1,rfl,g1,_,d1,q1⟩:=h1;obtain⟨a2,o2,c2,b2,t2,rfl,g2,_,d2,q2⟩:=h2;refine kat_lt g1 d1 g2 d2 ?_;show KatLex prog w A true _ Q [(.int n1 t1,.int n2 t2),(.ref b1,.ref b2)] 0 s;refine kat_cons (w8 ?_);by_cases e:n1=n2
 .rw[show(n1==n2)=true from by simpa using e];simp only[Tb,Q1 e]at h;refine kat_yes (kat_cons (My (ma r1) (ma r2) _ _ (by rw[mr];omega) (oF q1) (oF q2) prog w _ _ ?_));rw[Pu];by_cases er:r1=r2
  .rw[K2 er];subst er;rw[Lu]at h;exact kat_yes (kat_nil h)
  .rw[O2 er];exact kat_no (gQ (by omega) q1 q2 h)
 .rw[show(n1==n2)=false from by simpa using e];simp only[Tb,B2 e]at h;exact kat_no (oneLt_int h)
end
section
variable{X:Cx}{m m1 m2:Md}{r:Mc}{a b e:Expr}{f g:Ex}{pos p p2:Pos}
theorem jQ{pins:M0}{σ:L2.St}{H:Hp}{s:Shared}{Q:VK}{k:Nat}{fa:Addr}{fd:FuncData}{ps:Q0}{φ:V0}{v:V}{u:Value}(F:Ce X.prog X.w X.K X.mg X.base uf k fa fd ps (di X.K (rk X.K .k) φ))(hr:rc (k+2) X.A)(hb:L2.Binds X.K fd ps [])(I:Inv X pins σ H s)(r:RelV v u)(h:di X.K (rk X.K .k) φ [v] H Q E0):wpAny (model X.prog X.w) X.A.in1.in1 (call (.ref fa) [u]) (EP X pins σ Q) (λ_ _=>False) s:=by
 have r2:Vals [v] [u]:=.cons r .nil;have hl:([u]++([]:P0)).length=ps.length:=by have:=F.len _ _ _ _ h;simpa using this
 have Kl:=hb s [u] I.Jg hl;rw[d5]at Kl;refine B6 (Z5 (F.run X.A.in1.in1 X.stack s H ⟨[u],[]⟩ [u] [v] Q E0 (rc.in1 (rc.in1 hr)) I.env0.in1.in1 Kl r2 h) λr s' hq=>?_);cases r with
 |error e=>exact hq.elim
 |ok fl=>
  cases fl with
  |ret u=>exact I.after hq
  |next=>exact False.elim hq
  |brk=>exact False.elim hq
  |cont=>exact False.elim hq
theorem kQ{pins:M0}{σ:L2.St}{H:Hp}{s:Shared}(I:Inv X pins σ H s){kd:D}{l:K0}{v:V}{u:Value}(hk:jr kd=some l)(hr:Rep X.K H kd v)(ru:RelV v u):∃n r,l=n::r/\Vp s.heap u n r:=by
 unfold jr at hk;split at hk
 .rename_i n xs;split at hk
  .rename_i r bu;cases hk;have ex:=ints_of bu;subst ex;refine⟨n,r,rfl,?_⟩;have hh:=Yh I _ _ _ (by simp[D.dep,D.deps,Ku]) hr ru;simp only[Hr]at hh;obtain⟨a,its,rfl,⟨o,ho,hc,c,hd⟩,h2⟩:=hh;simp only[Qb,Hr]at h2;obtain⟨u1,r1,rfl,⟨t,rfl⟩,u2,r2,rfl,⟨b,its2,rfl,Qm,h3⟩,h4⟩:=h2;subst h4;refine⟨a,o,c,b,t,rfl,ho,hc,hd,its2.toArray,Qm,?_⟩;have ii:∀{ns:K0} {us:P0},Qb s (ns.map D.int) us->IntsAre us ns:=by
    intro ns;induction ns with
    |nil=>intro us h;simp only[V6,Qb]at h;subst h;exact .nil
    |cons n ns ih=>intro us h;simp only[V1,Qb,Hr]at h;obtain⟨u,r,rfl,⟨t,rfl⟩,h⟩:=h;exact .cons n t (ih h)
   simpa using ii h3
  .cases hk
 .cases hk
end
end
section
open PySem.W
section
variable{X:Cx}{pins:M0}{σ:L2.St}{H:Hp}{s:Shared}{a b:Addr}
structure Own(X:Cx)(pins:M0)(b:Addr):Prop where
 nl:b≠X.env.locals
 s0:X.s₀.heap.objs.size<=b
 nc:∀x c,X.env.cells.lookup x=some c->c≠b
 np:∀p∈X.pn++pins,p.1≠b
 nf:b∉X.fs
theorem pF(I:Inv X pins σ H s)(h:s.heap.objs.size<=b):Own X pins b:=
 ⟨a6 (Y1 I.lt h),E3 I.sz h,λx c e z=>by
  obtain⟨v,o,ho,_⟩:=I.cell x c e;have:=N1 ho;rw[z]at this;exact absurd (Y1 this h) (O4 _),λp hp z=>by
  have:=N1 (I.pin p hp).1;rw[z]at this;exact absurd (Y1 this h) (O4 _),I.ku h⟩
theorem qF{c:Addr}{oa oc:Obj}(I:Inv X pins σ H s)(wa:Own X pins a)(wc:Own X pins c)(ga:s.heap.get? a=some oa)(gc:s.heap.get? c=some oc)(na:H a=none)(nc:H c=none)(da:∀v,oa.data≠.cell v)(dc:∀v,oc.data≠.cell v):Inv X ((a,oa)::(c,oc)::pins) σ H s:=
 I.Sq λp hp=>by
  rcases T1.mp hp with rfl|hp
  .exact⟨ga,na,wa.nl,wa.nf,da⟩
  .rcases T1.mp hp with rfl|hp
   .exact⟨gc,nc,wc.nl,wc.nf,dc⟩
   .exact I.pin p (X1 _ hp)
theorem yz{pa pc:Addr×Obj}(I:Inv X (pa::pc::pins) σ H s):Inv X pins σ H s:=I.Sq λp hp=>I.pin p (X1 _ (M1 _ (M1 _ hp)))
theorem track{h':Heap}{vs:U0}{us:P0}{c t':Nat}(I:Inv X pins σ H s)(w:Own X pins a)(na:H a=none)(k:∀b o,b≠a->s.heap.get? b=some o->h'.get? b=some o)(g:h'.get? a=some (seqObj "list" us.toArray c))(hv:Vals vs us)(hz:vs.length<=sizeLine):Inv X pins σ (upd H a (.lst vs)) { s with heap:=h',toks:=t' }:=by
 refine I.step (g':=s.gens) (d':=s.drawn) (ch:=[a]) (λb hb=>?_) (λb o _ _ hc e _=>k b o (λz=>hc (by simp[z])) e) (λb o _ _ hc e _=>⟨o.slots,k b o (λz=>hc (by simp[z])) e⟩) (λb o hc e n=>?_)
  (λb o hc e=>⟨o,k b o (λz=>hc (by simp[z])) e⟩) (λb xs e=>?_) (λb o u e=>?_) (λb ps e=>⟨#[],?_⟩) (λm hm=>?_) (λb u e=>?_) I.bare
 .have e:b=a:=by simpa using hb
  subst e;exact⟨.inr w.s0,w.nl,w.nc,w.np⟩
 .rw[rb (λz=>hc (by simp[z]))];exact n
 .rw[rb (Vc e na)];exact e
 .rw[rb (Vc e na)];exact e
 .rw[rb (Vc e na),e];simp
 .obtain⟨o,es,ep,ho,r⟩:=hm;exact⟨o,es,ep,k _ o (U3 w.nl) ho,r⟩
 .by_cases hb:b=a
  .subst hb;rw[Lb]at e;cases e;exact⟨hz,us,c,hv,g⟩
  .rw[rb hb]at e;refine(I.Va b u e).stay (λc v hc q=>k c v ?_ q) (λc q=>by rw[rb (Vc q na)];exact q) λc xs q=>by rw[rb (Vc q na)];exact q
   rcases hc with z|z
   .rw[z];exact hb
   .exact Vc z na
end
section
variable{X:Cx}{pins:M0}{σ:L2.St}{H F:Hp}{s:Shared}{a kS:Addr}{E:N0}{P:PySem.Fin->Shared->Prop}
theorem rF{h:Heap}:∀{us:P0} {ls:J0},us.length=ls.length->(∀i,i<us.length->∃n r,ls.getD i []=n::r/\Vp h (us.getD i .none) n r)->∃fs,KatTups h us fs/\fs.length=us.length/\∀v∈fs,∃n t,v=.int n t
 |[],[],_,_=>⟨[],KatTups.nil,rfl,by simp⟩
 |u::us,l::ls,hl,hk=>by
  obtain⟨n,r,_,ka⟩:=hk 0 (by simp);obtain⟨fs,h1,h2,h3⟩:=rF (us:=us) (ls:=ls) (by simpa using hl) λi hi=>by obtain⟨n,r,e,k⟩:=hk (i+1) (by simpa using hi);exact⟨n,r,by simpa[List.getD]using e,by simpa[List.getD]using k⟩
  have lQ:Vp h u n r:=by simpa[List.getD]using ka
  obtain⟨a,o,c,b,tk,rfl,g,hc,hd,_⟩:=lQ;refine⟨.int n tk::fs,KatTups.cons g hc hd (by simp) h1,by simp[h2],λv hv=>?_⟩;rcases T1.mp hv with rfl|hv
  .exact⟨n,tk,rfl⟩
  .exact h3 v hv
 |[],_::_,hl,_=>by simp at hl
 |_::_,[],hl,_=>by simp at hl
theorem mQ{kA us:P0}{vs:U0}{ls:J0}{e e1:Nat}(hu:X.A.units+64<cLine)(I:Inv X pins σ H s)(wa:Own X pins a)(wk:Own X pins kS)(Bx:kS≠a)(na:H a=none)(nk:H kS=none)(ga:s.heap.get? a=some (seqObj "list" #[] e1))(gk:s.heap.get? kS=some (seqObj "list" kA.toArray e))(hv:Vals vs us)(hl:kA.length=us.length)(MY:us.length=ls.length)(He:us.length<64)(hk:∀i,i<us.length->∃n r,ls.getD i []=n::r/\Vp s.heap (kA.getD i .none) n r)(h:∀p s',Ord us.length (λi=>ls.getD i []) p->Inv X pins σ (upd H a (.lst (p.map λi=>vs.getD i .non))) s'->P (.done (.ret .none)) s'):wpAny (model X.prog X.w) X.A.in1.in1 (ksk_end a false us.toArray e1 (.ref kS) kA.toArray) P E s:=by
 have Io:=M3;have Jo:=hv.length;have fin:∀(st:SortSt) (p:List Nat),(arrOf st).map (·.2)=(p.map λi=>us.getD i .none).toArray->failedOf st=none->Ord us.length (λi=>ls.getD i []) p->wpAny (model X.prog X.w) X.A.in1.in1 (ksk_tail a false e1 (.ref kS) st) P E s:=by
  intro st p MB hf ng;have hlen:p.length=us.length:=by rw[ng.pm.length_eq];simp
  have Wa:∀i∈p,i<vs.length:=λi hi=>by rw[Jo];simpa using ng.pm.mem_iff.mp hi
  unfold ksk_tail;rw[MB];have Az:(s.heap.update kS (Obj.mapSeq λ_=>(#[]:Array Value))).get? a=some (seqObj "list" #[] e1):=by rw[D2 _ _ Bx];exact ga
  refine X0 (K6 gk rfl ?_ (by rw[R1];omega) (V3 _));refine X0 (wpAny_letGo ?_);refine X0 (D8 Az rfl ?_);simp only[o4,r6];refine X0 (K6 Az rfl ?_ (V3 _) (by rw[R1,Y0];omega));rw[hf];simp only[Zau,o4,r6];refine G1 (h p _ ng ?_);have I1:=I.turned (t':=s.toks) (h':=s.heap.update kS (Obj.mapSeq λ_=>(#[]:Array Value))) (it:=kS) (λb o hb e=>by rw[D2 _ _ (U3 hb)];exact e) nk wk.nl (.inr wk.s0) wk.nc wk.np;exact track (s:={ s with heap:=s.heap.update kS (Obj.mapSeq λ_=>(#[]:Array Value)) }) (t':=s.toks) I1 wa na (λb o hb e=>by rw[D2 _ _ (U3 hb)];exact e) (R5 Az λ_=>(p.map λi=>us.getD i .none).toArray) (wz hv p Wa) (by rw[Y0];omega)
 unfold ksk_end;dsimp only;simp only[o4,r6];by_cases h2:us.toArray.size<2
 .rw[Q1 h2,Q1 h2];refine X0 (G1 ?_);rw[StateT.run_pure];refine X0 (G1 ?_);have hz:us.length<2:=by simpa using h2
  refine fin (SortSt.mk' general' (kA.toArray.zip us.toArray) #[] 7 none) (List.range us.length) ?_ rfl (eF hz);show(kA.toArray.zip us.toArray).map (·.2)=_
  match us,kA,hz,hl with
  |[],[],_,_=>simp
  |[v],[w],_,_=>simp
 .rw[B2 h2,B2 h2];have hz:2<=us.length:=by simp at h2;exact h2
  obtain⟨fs,t1,t2,t3⟩:=rF (us:=kA) (ls:=ls) (by omega) (λi hi=>hk i (by omega));refine X0 (kat_kind (T:=.type "int") t1 (by omega) (λv hv=>?_) (by decide) ?_)
  .obtain⟨n,t,rfl⟩:=t3 v hv;exact λA Q E s k q=>K7 (T:="int") rfl q
  .rw[show(Value.type "int" != Value.type "tuple")=true from by decide];refine X0 (K3 (kat_run (ks:=kA) (vs:=us) (κ:=tuples' true) (Q:=λst' s'=>s'=s/\∃p:List Nat,(arrOf st').map (·.2)=(p.map λi=>us.getD i .none).toArray/\failedOf st'=none/\Ord us.length (λi=>ls.getD i []) p)
    (G:=λp s'=>s'=s/\Ord us.length (λi=>ls.getD i []) p.toList) hl hz He (λp' st' s' a1 a2 a3 a4=>⟨a4.1,p'.toList,kat_snds hl a2,a3,a4.2⟩)
    (VE (P:=λs'=>s'=s) (key:=λi=>ls.getD i []) (λi j hi hj C s' qi hC=>?_) hz rfl λp' s' hv hu qi=>⟨qi,dF hv hu⟩)) ?_ λ_ _ e=>e)
   .subst qi;obtain⟨n1,r1,q1,k1⟩:=hk i hi;obtain⟨n2,r2,q2,k2⟩:=hk j hj;show wpAny _ _ (keyLt' (tuples' true) (kA.getD i .none) (kA.getD j .none)) C (λ_ _=>False) _;have hc:=hC _ rfl;rw[q1,q2]at hc;exact iQ (by simp only[Around.in1];omega) k1 k2 hc
   .rintro⟨⟨⟩,st'⟩ s' ⟨rfl,p,hp,hf,ng⟩;exact fin st' p hp hf ng
end
theorem Bz{φ:V0}:∀{ds:W0} {ks:List (K0×D)},Bj φ ds=some ks->ks.length=ds.length/\ks.map (·.2)=ds/\∀(i:Nat) d,ds[i]?=some d->∃kd l,φ [d]=some kd/\jr kd=some l/\ks[i]?=some (l,d)
 |[],ks,h=>by simp only[Bj]at h;cases h;exact⟨rfl,rfl,by simp⟩
 |x::xs,ks,h=>by
  simp only[Bj]at h;split at h
  .rename_i k q h1 h2;split at h
   .rename_i l hl;cases h;obtain⟨a1,a2,a3⟩:=Bz h2;refine⟨by simp[a1],by simp[a2],λi d hd=>?_⟩;cases i with
    |zero=>simp at hd;subst hd;exact⟨k,l,h1,hl,by simp⟩
    |succ i=>simpa using a3 i d (by simpa using hd)
   .cases h
  .cases h
theorem sF{K:Frag}{F:Hp}{d:D}{v:V}:∀{ds:W0} {vs:U0},Ba K F ds vs->Rep K F d v->Ba K F (ds++[d]) (vs++[v])
 |[],vs,h,k=>by simp only[Ba]at h;subst h;exact Ba.cons k Ba.nil
 |x::ds,vs,h,k=>by simp only[Ba]at h;obtain⟨v',r,rfl,h2,h3⟩:=h;exact Ba.cons h2 (sF h3 k)
theorem nQ{v:V}{u:Value}{vs:U0}{us:P0}(h:Vals vs us)(r:RelV v u):Vals (vs++[v]) (us++[u]):=h.append (.cons r .nil)
section
variable{X:Cx}{pins:M0}{σ:L2.St}{H F:Hp}{s:Shared}{a kS:Addr}{E:N0}{P:PySem.Fin->Shared->Prop}
theorem oQ{k:Nat}{fa:Addr}{fd:FuncData}{ps:Q0}{φ:V0}{us:P0}{vs:U0}{ds:W0}{ks:List (K0×D)}{e1:Nat}(Fn:Ce X.prog X.w X.K X.mg X.base uf k fa fd ps (di X.K (rk X.K .k) φ))(cu:rc (k+2) X.A)(hb:L2.Binds X.K fd ps [])(hu:X.A.units+64<cLine)(I:Inv X pins σ H s)(wa:Own X pins a)(wk:Own X pins kS)(Bx:kS≠a)(na:H a=none)(nk:H kS=none)(ga:s.heap.get? a=some (seqObj "list" #[] e1))(gk:s.heap.get? kS=some (seqObj "list" #[] 0))(hv:Vals vs us)(He:us.length<64)(fh:Same F H)(hr:Ba X.K F ds vs)(Vm:Bj φ ds=some ks)(h:∀p F' H' s',Ord us.length (λi=>(ks.map (·.1)).getD i []) p->Ext F H F' H'->H' a=none->Inv X pins σ (upd H' a (.lst (p.map λi=>vs.getD i .non))) s'->P (.done (.ret .none)) s'):wpAny (model X.prog X.w) X.A.in1.in1 (ksk_rest a (.ref fa) false us.toArray e1 (.ref kS)) P E s:=by
 have Io:=M3;have Jo:=hv.length;have JB:=hr.length;obtain⟨kl,k2,k3⟩:=Bz Vm;unfold ksk_rest;refine X0 (N8 ?_);rw[List.forIn_toArray];refine X0 (ksk_fold (λi s'=>∃(F' H':Hp) (cj:W0) (kvs:U0) (kA:P0) (e:Nat),Ext F H F' H'/\Inv X ((a,seqObj "list" #[] e1)::(kS,seqObj "list" (List.toArray kA) e)::pins) σ H' s'/\Vals kvs kA/\Ba X.K F' cj kvs/\cj.length=i/\(∀(j:Nat) (kd:D),cj[j]?=some kd->∃d,ds[j]?=some d/\φ [d]=some kd)) us 0 s
  ⟨F,H,[],[],[],0,Ext.refl fh,qF I wa wk ga gk na nk (λv h=>by cases h) (λv h=>by cases h),.nil,Ba.nil,rfl,λj kd q=>by cases q⟩ ?step ?done)
 case step=>
  rintro j x s' hx ⟨F',H',cj,kvs,kA,e,z,I',hV,hR,hn,hD⟩;simp only[C9]at hn |-;have hj:j<us.length:=(P1.mp hx).1;have Cz:j<ds.length:=by omega
  have tF:j<vs.length:=by omega
  obtain⟨kd,l,f1,f2,f3⟩:=k3 j ds[j] (by simp[Cz]);obtain⟨u,Jq,ru⟩:=hv.get (i:=j) (x:=vs[j]) (by simp[tF]);rw[hx]at Jq;cases Jq;have pQ:Rep X.K F ds[j] vs[j]:=by obtain⟨d,hd,rd⟩:=hr.Ap (i:=j) (v:=vs[j]) (by simp[tF]);rw[E1 Cz]at hd;cases hd;exact rd
  refine X0 (i7 (K3 (jQ (Q:=λv H2=>∃F2,Ext F' H' F2 H2/\Rep X.K F2 kd v) Fn cu hb I' ru ⟨F',[ds[j]],kd,z.fh,Ba.cons (Rep.mono z.ff _ _ pQ) Ba.nil,f1,λv F2 H2 z2 r2=>⟨F2,z2,r2⟩⟩) (λv s'' he=>?_) λ_ _ hF=>hF.elim));obtain⟨v',H2,I2,rv,F2,z2,r2⟩:=he;dsimp only;have pk:=I2.pin (kS,seqObj "list" (List.toArray kA) e) (X1 _ (.tail _ (.head _)));have pa:=I2.pin (a,seqObj "list" #[] e1) (X1 _ (.head _));have xJ:kA.length=j:=by rw[<-hV.length,<-hR.length];exact hn
  obtain⟨c2,Qh⟩:∃c2,(s''.heap.update kS (Obj.mapSeq (·.push v))).get? kS=some (seqObj "list" ((List.toArray kA).push v) c2):=⟨_,R5 pk.1 (·.push v)⟩
  refine X0 (K6 pk.1 rfl ?_ (by rw[R1];omega) (E3 (G9 (Array.size_push ..)) (by rw[R1];omega)));refine G1 ⟨rfl,F2,H2,cj++[kd],kvs++[v'],kA++[v],c2,z.trans z2,?_,nQ hV rv,sF (Ba.mono z2.ff _ _ hR) r2,by simp[hn],λi q hq=>?_⟩
  .have I3:Inv X pins σ H2 { s'' with heap:=s''.heap.update kS (Obj.mapSeq (·.push v)),toks:=s''.toks }:=(yz I2).turned (it:=kS) (λb o hb e=>by rw[D2 _ _ (U3 hb)];exact e) pk.2.1 wk.nl (.inr wk.s0) wk.nc wk.np;refine qF I3 wa wk ?_ ?_ pa.2.1 pk.2.1 (λv h=>by cases h) (λv h=>by cases h)
   .show(s''.heap.update kS _).get? a=_;rw[D2 _ _ Bx];exact pa.1
   .rw[show(kA++[v]).toArray=kA.toArray.push v from by simp];exact Qh
  .by_cases hi:i<cj.length
   .rw[B5 hi]at hq;exact hD i q hq
   .have Eo:i=cj.length:=by
     have:=(P1.mp hq).1;simp at this;omega
    subst Eo;simp at hq;subst hq;exact⟨ds[j],by rw[hn];simp[Cz],f1⟩
 case done=>
  rintro s' ⟨F',H',cj,kvs,kA,e,z,I',hV,hR,hn,hD⟩;simp only[C9]at hn;have pk:=I'.pin (kS,seqObj "list" (List.toArray kA) e) (X1 _ (.tail _ (.head _)));have pa:=I'.pin (a,seqObj "list" #[] e1) (X1 _ (.head _));have xJ:kA.length=us.length:=by rw[<-hV.length,<-hR.length];exact hn
  refine X0 (x9 pk.1 rfl ?_);refine mQ (ls:=ks.map (·.1)) hu (yz I') wa wk Bx pa.2.1 pk.2.1 pa.1 pk.1 hv xJ (by rw[Y0,kl];omega) He (λi hi=>?_) λp s2 hp I2=>h p F' H' s2 hp z pa.2.1 I2;have Um:i<ds.length:=by omega
  have Ho:i<cj.length:=by omega
  obtain⟨kd,l,f1,f2,f3⟩:=k3 i ds[i] (E1 Um);obtain⟨v,Zt,rv⟩:=hR.get (i:=i) (d:=cj[i]) (E1 Ho);obtain⟨d,yJ,hd2⟩:=hD i cj[i] (E1 Ho);have ed:d=ds[i]:=by rw[E1 Um]at yJ;cases yJ;rfl
  subst ed;rw[f1]at hd2;injection hd2 with hd2;rw[<-hd2]at rv;obtain⟨u,NB,ru⟩:=hV.get Zt;obtain⟨n,r,e2,ka⟩:=kQ (yz I') f2 (Rep.mono z.fh _ _ rv) ru;refine⟨n,r,?_,?_⟩
  .rw[K1,i3,f3];exact e2
  .rw[K1,NB];exact ka
theorem qQ{k:Nat}{fa:Addr}{fd:FuncData}{ps:Q0}{φ:V0}{us:P0}{vs:U0}{ds:W0}{ks:List (K0×D)}{n:Nat}(Fn:Ce X.prog X.w X.K X.mg X.base uf k fa fd ps (di X.K (rk X.K .k) φ))(cu:rc (k+2) X.A)(hb:L2.Binds X.K fd ps [])(hu:X.A.units+64<cLine)(I:Inv X pins σ H s)(wa:Own X pins a)(na:H a=none)(ga:s.heap.get? a=some (seqObj "list" us.toArray n))(hv:Vals vs us)(He:us.length<64)(fh:Same F H)(hr:Ba X.K F ds vs)(Vm:Bj φ ds=some ks)(h:∀p F' H' s',Ord us.length (λi=>(ks.map (·.1)).getD i []) p->Ext F H F' H'->H' a=none->Inv X pins σ (upd H' a (.lst (p.map λi=>vs.getD i .non))) s'->P (.done (.ret .none)) s'):wpAny (model X.prog X.w) X.A.in1.in1 (ksk_tree a (.ref fa) false) P E s:=by
 have Io:=M3;unfold ksk_tree;refine X0 (x9 ga rfl ?_);refine X0 (K6 ga rfl ?_ (by rw[R1];omega) (V3 _));obtain⟨e1,au⟩:∃e1,(s.heap.update a (Obj.mapSeq λ_=>(#[]:Array Value))).get? a=some (seqObj "list" #[] e1):=⟨_,R5 ga λ_=>#[]⟩
 refine X0 (D8 au rfl (X0 (O8 ?_ (by show us.length<=_;omega))));refine X0 (f7 (Y3 ?_) (V3 _));obtain⟨h2,e2⟩:∃h2,h2=(s.heap.update a (Obj.mapSeq λ_=>(#[]:Array Value))).push (seqObj "tuple" us.toArray 0):=⟨_,rfl⟩
 have Qp:h2.objs.size=s.heap.objs.size+1:=by rw[e2,Zae,C8]
 show wpAny _ _ (ksk_rest a (.ref fa) false us.toArray e1 (.ref ((s.heap.update a (Obj.mapSeq λ_=>(#[]:Array Value))).push (seqObj "tuple" us.toArray 0)).objs.size)) _ _ { s with heap:=((s.heap.update a (Obj.mapSeq λ_=>(#[]:Array Value))).push (seqObj "tuple" us.toArray 0)).push (seqObj "list" #[] 0) };rw[<-e2];have Wa:a<s.heap.objs.size:=N1 ga;have I3:Inv X pins σ H { s with heap:=h2.push (seqObj "list" #[] 0),toks:=s.toks }:=I.turned (it:=a) (λb o hb e=>by rw[e2];refine B1 _ (B1 _ ?_);rw[D2 _ _ (U3 hb)];exact e) na wa.nl (.inr wa.s0) wa.nc wa.np
 refine oQ (s:={ s with heap:=h2.push (seqObj "list" #[] 0),toks:=s.toks }) Fn cu hb hu I3 wa (pF I (by omega)) (by rw[Qp];exact a6 (c7 Wa)) na (I.Va.fresh (by omega)) ?_ (Z1 _ rfl) hv He fh hr Vm h;show(h2.push _).get? a=_;rw[e2];exact B1 _ (B1 _ au)
theorem rQ{k:Nat}{fa l:Addr}{fd:FuncData}{ps:Q0}{φ:V0}{vs:U0}{ds:W0}{ks:List (K0×D)}{Q:N0}(Fn:Ce X.prog X.w X.K X.mg X.base uf k fa fd ps (di X.K (rk X.K .k) φ))(cu:rc (k+2) X.A)(hb:L2.Binds X.K fd ps [])(hu:X.A.units+64<cLine)(I:Inv X pins σ H s)(hS:Cc X.K H l vs)(He:vs.length<64)(fh:Same F H)(hr:Ba X.K F ds vs)(Vm:Bj φ ds=some ks)(h:∀p q F' H' s',Ord vs.length (λi=>(ks.map (·.1)).getD i []) p->Ext F H F' H'->H q=none->H' q=none->Inv X pins σ (upd H' q (.lst (p.map λi=>vs.getD i .non))) s'->Q (.ref q) s'):wpAny (model X.prog X.w) X.A (call (.builtin "sorted") [.ref l] [(Str.ofString "key",.ref fa)]) Q E s:=by
 have Io:=M3;obtain⟨us,rv,pl,z⟩:=I.list hS;have Jo:=rv.length;refine call_function_entry_kw U9 w9 y9 (ksk_s1 _ _) ?_;unfold Builtin.«sorted»;refine X0 (m:=checkCount "sorted" 1 1 _) (G1 (X0 (collect_list pl.isList ?_ (by omega))));refine X0 (f7 ?_ (by omega));obtain⟨h2,e2⟩:∃h2,h2=(s.heap.push (seqObj "list" #[] 0)).update s.heap.objs.size (Obj.mapSeq (·++us.toArray)):=⟨_,rfl⟩
 have Qp:h2.objs.size=s.heap.objs.size+1:=by rw[e2,C8,Zae]
 have Hv:∀b o,s.heap.get? b=some o->(h2.push (seqObj "list" us.toArray 0)).get? b=some o:=λb o e=>by refine B1 _ ?_;rw[e2,D2 _ _ (a6 (N1 e))];exact B1 _ e
 show wpAny _ _ _ _ _ { s with heap:=((s.heap.push (seqObj "list" #[] 0)).update s.heap.objs.size (Obj.mapSeq (·++us.toArray))).push (seqObj "list" us.toArray 0) };rw[<-e2];have g3:(h2.push (seqObj "list" us.toArray 0)).get? h2.objs.size=some (seqObj "list" us.toArray 0):=Z1 _ rfl;refine X0 (Y3 (wpAny_call_entry_kw Q8 ⟨_,g3,rfl⟩ F8 ?_ (ksk_l1 _ _)));show wpAny (model X.prog X.w) X.A.in1.in1 (Builtin.«list.sort» ⟨[.ref h2.objs.size],[(Str.ofString "key",.ref fa)]⟩) _ _ _;rw[ksk_t1];refine qQ (s:={ s with heap:=h2.push (seqObj "list" us.toArray 0),toks:=s.toks }) Fn cu hb hu (I.kept Hv) (pF I (by omega)) (I.Va.fresh (by omega)) g3 rv (by omega) fh hr Vm λp F' H' s' hp z' hn I'=>⟨_,rfl,G1 ⟨_,rfl,h p h2.objs.size F' H' s' (by rw[Jo];exact hp) z' (I.Va.fresh (by omega)) hn I'⟩⟩
end
end
section
open PySem.W
theorem uF{H:Hp}{ds:W0}{vs:U0}(h:Nb H ds vs):∀(p:List Nat),(∀i∈p,i<vs.length)->Nb H (p.map λi=>ds.getD i .non) (p.map λi=>vs.getD i .non)
 |[],_=>by simp[Nb]
 |i::p,hp=>by
  have hi:=hp i W1;have at':∀{ds:W0} {vs:U0} (i:Nat),Nb H ds vs->i<vs.length->zc H (ds.getD i .non) (vs.getD i .non):=by
   intro ds;induction ds with
   |nil=>intro vs i h hi;simp only[Nb]at h;subst h;simp at hi
   |cons d ds ih=>
    intro vs i h hi;simp only[Nb]at h;obtain⟨v,r,rfl,h2,h3⟩:=h;cases i with
    |zero=>simpa using h2
    |succ i=>simpa using ih i h3 (by simpa using hi)
  simp only[V1,Nb];exact⟨_,_,rfl,at' i h hi,uF h p λj hj=>hp j (M1 _ hj)⟩
theorem sQ{ks:List (K0×D)}(nd:(ks.map (·.1)).Nodup){x y:K0×D}(hx:x∈ks)(hy:y∈ks)(h:x.1=y.1):x=y:=by
 induction ks with
 |nil=>cases hx
 |cons k ks ih=>
  simp only[V1,T2]at nd;rcases T1.mp hx with rfl|Hg<;>rcases T1.mp hy with rfl|pi
  .rfl
  .exact absurd (U1.mpr ⟨y,pi,h.symm⟩) nd.1
  .exact absurd (U1.mpr ⟨x,Hg,h⟩) nd.1
  .exact ih nd.2 Hg pi
theorem tQ{ks:List (K0×D)}{p:List Nat}(nd:(ks.map (·.1)).Nodup)(h:Ord ks.length (λi=>(ks.map (·.1)).getD i []) p):(vh (λp:K0×D=>p.1) ks).map (λp=>p.2)=p.map λi=>(ks.map (·.2)).getD i .non:=by
 have hlen:p.length=ks.length:=by rw[h.pm.length_eq];simp
 have Wa:∀i∈p,i<ks.length:=λi hi=>by simpa using h.pm.mem_iff.mp hi
 have p1:(p.map λi=>ks.getD i ([],.non)).Perm ks:=by
  have:=h.pm.map λi=>ks.getD i ([],.non)
  rwa [iF]at this
 have e:p.map (λi=>ks.getD i ([],.non))=vh (λp:K0×D=>p.1) ks:=by refine(p1.trans (Uh _ ks).symm).eq_of_pairwise (λx y hx hy h1 h2=>sQ nd (p1.mem_iff.mp hx) ((Uh _ ks).mem_iff.mp hy) (Jb.anti h1 h2)) ?_ (pr (λp:K0×D=>p.1) ks);rw[e6];intro i j hi hj Ge;simp only[Y0]at hi hj;have:=h.up i j (U6 Ge) (by omega);have Eo:=Wa p[i] (N3 hi);have NY:=Wa p[j] (N3 hj);simpa[List.getD,hi,hj,Eo,NY]using this
 rw[<-e,i4];refine M5 λi hi=>?_;have:=Wa i hi;simp[List.getD,this]
section
variable{X:Cx}{m m1 m2:Md}{r:Mc}{a b e:Expr}{f g:Ex}{pos p p2:Pos}
theorem uQ(i:Nat){k:Nat}{x fx:Str}{φ:V0}{p1 p3 kpos:Pos}(G:Fh X.prog X.w X.K X.mg X.base k fx (rk X.K .k) φ)(hr:rc (k+2) X.A)(T:Bt X.mg)(hu:X.A.units+64<cLine)(hg:X.env.kindOf "sorted"=some .globalImplicit:=by kernel_rfl)(OB:X.env.kindOf fx=some .globalImplicit:=by kernel_rfl)(Il:(fx==("__debug__":Str))=false:=by kernel_rfl)(hN:X.N[i]?=some x:=by kernel_rfl)(hv:Ee X.env.scope x=true:=by kernel_rfl)(hd:(x==("__debug__":Str))=false:=by kernel_rfl)(Mb:(x==("__classdict__":Str))=false:=by kernel_rfl):Tp X (.Call (.Name "sorted" p) [.Name x p1] [⟨some "key",.Name fx p3,kpos⟩] pos) (za (Qj φ) (Up i)):=⟨λpins s σ H Q I Ca=>Cb Ca λBF BH F env L ds' S e q=>by
 unfold za Up at e;split at e
 .rename_i y hy;split at hy
  .rename_i ds he;cases hy;simp only[Qj]at e;split at e
   .rename_i ks Vm;split at e
    .rename_i hc;cases e;obtain⟨p0,vs,hσ,hl,hp,rr⟩:=fF S he;have reps:Ba X.K F ds vs:=Nb.reps _ _ (Nb.mono Lk _ _ rr);obtain⟨kl,k2,_⟩:=Bz Vm;have Jo:vs.length=ks.length:=by rw[kl];exact reps.length.symm
     obtain⟨fa,fd,ps,h1,h2,h3,h4⟩:=G.ex;refine X3 (Ri I hg T.sorted V9 ?_);refine callWith_kw (L2.Ua ((jd (kf hN (Cf hv) hd Mb) Sd (Gd rfl)) pos pins s σ H (λxs H1=>xs=[.ref p0]/\H1=H) I ⟨_,hσ,rfl,rfl⟩) λus s1 ⟨xs,H1,I1,r1,e1,e2⟩=>?_);subst e1 e2;obtain⟨u,rfl,ru⟩:=r1.one;cases ru;refine L2.Ua ((L2.vL (nm:=some "key") (kpos:=kpos) (WB (pos:=p3) OB h1 (v:=.ref fa) rfl Il) L2.uL) pos pins s1 σ H1 (λzs H2=>zs=[.ref fa]/\H2=H1) I1 ⟨rfl,rfl⟩) λws s2 ⟨zs,H2,I2,rz,e1,e2⟩=>?_;subst e1 e2;obtain⟨u,rfl,ru⟩:=rz.one;cases ru;show wpAny _ _ (call (.builtin "sorted") [.ref p0] [(Str.ofString "key",.ref fa)]) _ _ _;refine rQ h3 hr h4 hu I2 (.inl (.inl hp)) (by omega) S.fh reps Vm λpm q' F' H' s' ng z hq Ni I'=>⟨.ref q',_,I',rfl,q q' _ F' _ (z.trans (Ext.own z.fh Ni)) hq Lb (z.fh.free Ni) ?_⟩
     rw[Jo]at ng;have Wa:∀i∈pm,i<vs.length:=λi hi=>by rw[Jo];simpa using ng.pm.mem_iff.mp hi
     rw[tQ hc.2 ng,k2];exact uF (Nb.mono (jm z.ff) _ _ rr) pm Wa
    .cases e
   .cases e
  .cases hy
 .cases e⟩
theorem vQ{φ:V0}{env:Env}{d:D}(h:za (Qj φ) f env=some d):∃ds,d=.lst ds:=by
 unfold za at h;split at h
 .unfold Qj at h;split at h
  .split at h
   .split at h
    .cases h;exact⟨_,rfl⟩
    .cases h
   .cases h
  .cases h
 .cases h
theorem wQ(i:Nat){k:Nat}{x fx:Str}{φ:V0}{p1 p3 kpos:Pos}(G:Fh X.prog X.w X.K X.mg X.base k fx (rk X.K .k) φ)(hr:rc (k+2) X.A)(T:Bt X.mg)(hu:X.A.units+64<cLine)(hg:X.env.kindOf "sorted"=some .globalImplicit:=by kernel_rfl)(OB:X.env.kindOf fx=some .globalImplicit:=by kernel_rfl)(Il:(fx==("__debug__":Str))=false:=by kernel_rfl)(hN:X.N[i]?=some x:=by kernel_rfl)(hv:Ee X.env.scope x=true:=by kernel_rfl)(hd:(x==("__debug__":Str))=false:=by kernel_rfl)(Mb:(x==("__classdict__":Str))=false:=by kernel_rfl):Ug X (.Call (.Name "sorted" p) [.Name x p1] [⟨some "key",.Name fx p3,kpos⟩] pos) (za (Qj φ) (Up i)):=(uQ i G hr T hu hg OB Il hN hv hd Mb).n λenv d h=>vQ h
end
end
noncomputable def Se(kvs:List (Int×Int))(k:Int):Option Int:=(kvs.find? λp=>decide (p.1=k)).map (·.2)
noncomputable def dput(kvs:List (Int×Int))(k v:Int):List (Int×Int):=
 if(kvs.any λp=>decide (p.1=k))=true then kvs.map (λp=>if p.1=k then(p.1,v)else p)else kvs++[(k,v)]
noncomputable def Lz:D->D->Option D
 |.dct kvs,.int k=>match Se kvs k with
  |some v=>some (.int v)
  |none=>none
 |_,_=>none
noncomputable def Zk(a b:Ex):Ex:=De Lz a b
noncomputable def Mz(i:Nat)(b c:Ex):Ex:=λenv=>match env[i]?,b env,c env with
 |some (.dc kvs),some (.int k),some (.int x)=>some (.int ((Se kvs k).getD x))
 |_,_,_=>none
noncomputable def Nz(a b:Ex):Tx:=λenv=>match a env,b env with
 |some (.int k),some (.dct kvs)=>some (Se kvs k).isSome
 |_,_=>none
noncomputable def Hs(a b:Ex):Ex:=λenv=>match a env,b env with
 |some (.int k),some (.int v)=>some (.dct [(k,v)])
 |_,_=>none
noncomputable def Yp:D->Option D
 |.dct kvs=>some (.int kvs.length)
 |_=>none
noncomputable def Js(a:Ex):Lx:=λenv=>match a env with
 |some (.dct kvs)=>some (kvs.map λp=>.int p.1)
 |_=>none
noncomputable def Mv(i:Nat)(e:Ex):St:=λenv=>match e env with
 |some (.dct kvs)=>some (.nx,env.set i (.dc kvs))
 |_=>none
noncomputable def Oz(i:Nat):St:=λenv=>some (.nx,env.set i (.dc []))
noncomputable def Xk(i:Nat)(a e:Ex):St:=λenv=>match env[i]?,e env,a env with
 |some (.dc kvs),some (.int v),some (.int k)=>if kvs.length<lim then some (.nx,env.set i (.dc (dput kvs k v)))else none
 |_,_,_=>none
noncomputable def Pz:D->Option D
 |.lst xs=>match Xd xs with
  |some ns=>if ns.length<=3000 then some (.int (seen ns).length)else none
  |none=>none
 |_=>none
noncomputable def Dg:Nat->W0->W0
 |_,[]=>[]
 |k,d::ds=>.tup [.int k,d]::Dg (k+1) ds
noncomputable def Ks(a:Ex):Lx:=λenv=>match a env with
 |some (.lst xs)=>some (Dg 0 xs)
 |_=>none
theorem Qz(kvs:List (Int×Int))(k:Int):Kh (be kvs) (Sum.inl k:Key)=(Se kvs k).map V.int:=by
 unfold Kh be Se;rw[List.find?_map];have e:((λkv:Key×V=>decide (kv.1=(Sum.inl k:Key)))∘λp:Int×Int=>((Sum.inl p.1:Key),V.int p.2))=λp:Int×Int=>decide (p.1=k):=by funext p;simp
 rw[e];cases kvs.find? λp=>decide (p.1=k)<;>rfl
theorem UQ(kvs:List (Int×Int))(k v:Int):putK (be kvs) (Sum.inl k:Key) (V.int v)=be (dput kvs k v):=by
 unfold putK dput;have e:((be kvs).any λkv=>decide (kv.1=(Sum.inl k:Key)))=kvs.any λp=>decide (p.1=k):=by unfold be;rw[List.any_map];congr 1;funext p;simp
 rw[e];split
 .unfold be;rw[i4,i4];refine M5 λp _=>?_;simp only[Function.comp];by_cases h:p.1=k
  .rw[Q1 h,Q1 (by rw[h])]
  .rw[B2 h,B2 (λe=>h (Sum.inl.inj e))]
 .unfold be;rw[D3];rfl
theorem Ls{K:Frag}{H:Hp}{kvs:List (Int×Int)}{v:V}(h:Rep K H (.dct kvs) v):∃a o,v=.ref a/\H a=some (.Tc o (.dK (be kvs))):=by simpa[Rep]using h
theorem GF{H:Hp}{a:Addr}{o:Obj}{kvs:List (Key×V)}{k:Key}(e:H a=some (.Tc o (.dK kvs))):fj H a (L2.kV k) (Kh kvs k):=.inl ⟨kvs,k,.inr ⟨o,e⟩,rfl,rfl⟩
section
variable{X:Cx}{m m1 m2 m3:Md}{r:Mc}{a b c e:Expr}{f g h:Ex}{pos p p2 pos':Pos}
theorem Ms(hu:X.A.units+64<cLine)(ha:PD X m1 a f)(hb:PD X m2 b g)(hs:L2.Jz b:=by exact λ_ _=>rfl):PD X m (.Subscript a b pos) (Zk f g):=
 PD.mk<|PE.of (L2.HQ (by omega) ha.r.h hb.r.h hs) λσ H Q Ca=>Cb Ca λBF BH F env L d S e q=>by
  unfold Zk De at e;split at e
  .rename_i x y h1 h2;unfold Lz at e;split at e
   .split at e
    .rename_i kvs k _ v hv;cases e;refine two S h1 h2 λv' w F' H' z r1 r2=>?_;obtain⟨p,o,rfl,hp⟩:=Ls r1;refine⟨p,.int v,rfl,?_,q _ F' H' z (by simp[Rep])⟩;rw[pd r2];have:=GF (k:=(Sum.inl k:Key)) hp;rw[Qz,hv]at this;exact this
    .cases e
   .cases e
  .cases e
theorem VQ(hu:X.A.units+64<cLine)(ha:PD X m1 a f)(hb:PD X m2 b g)(hm:behindInMarks .In b=false:=by with_unfolding_all rfl):Ke X (.Compare a [.In] [b] pos) (Nz f g):=
 PT.of (L2.xk (L2.IQ (by omega) ha.r.h hb.r.h) hm) λσ H Q Ca=>Cb Ca λBF BH F env L d S e q=>by
  unfold Nz at e;split at e
  .rename_i k kvs h1 h2;cases e;refine two S h1 h2 λv' w F' H' z r1 r2=>?_;obtain⟨p,o,rfl,hp⟩:=Ls r2;have e2:((Se kvs k).map V.int).isSome=(Se kvs k).isSome:=by cases Se kvs k<;>rfl
   refine⟨p,(Se kvs k).map V.int,rfl,?_,_,rfl,by rw[e2];exact q F' H' z⟩;rw[pd r1];have:=GF (k:=(Sum.inl k:Key)) hp;rw[Qz]at this;exact this
  .cases e
theorem WQ(hu:X.A.units+64<cLine)(i:Nat){x:Str}{p1 p3 p4:Pos}(hb:PD X m2 b g)(hc:PD X m3 c h)(hN:X.N[i]?=some x:=by kernel_rfl)(hv:Ee X.env.scope x=true:=by kernel_rfl)(hd:(x==("__debug__":Str))=false:=by kernel_rfl)(Mb:(x==("__classdict__":Str))=false:=by kernel_rfl)(gf:attributeBase (.Name x p1) "get" X.env (eval (.Name x p1) X.env)=eval (.Name x p1) X.env:=by rfl)(jf:(p3.endLine==p4.line)=true:=by rfl)(Ut:((backTo p4 (starEach [b,c] X.env)).all (λx=>!x.1)&&(backToKw p4 (keywordEach [] X.env)).all (λx=>x.1.isSome) && decide (([b,c]:T0).length+([]:List Keyword).length+(if([]:List Keyword).isEmpty then 0 else 1)<30))=true:=by rfl)(PY:backTo p4 (starEach [b,c] X.env)=[(false,eval b X.env),(false,eval c X.env)]:=by rfl):PD X m (.Call (.Attribute (.Name x p1) "get" p3) [b,c] [] p4) (Mz i g h):=
 PD.mk<|PE.of (L2.SQ (by omega) (kf hN (Cf hv) hd Mb) hb.r.h hc.r.h ⟨gf,Ut,jf,PY⟩) λσ H Q Ca=>Cb Ca λBF BH F env L d S e q=>by
  unfold Mz at e;split at e
  .rename_i kvs k x h1 h2 h3;cases e;obtain⟨ov,hσ,lh⟩:=S.sl i _ h1;obtain⟨p,rfl,hl,hp⟩:=lh;refine⟨_,hσ,p,rfl,.inl ⟨_,.inl hp⟩,BF,BH,F,env,L,_,S,h2,λv2 F2 H2 z2 r2=>⟨BF,BH,F2,env,L,_,S.ext z2,h3,λv3 F3 H3 z3 r3=>?_⟩⟩;have QY:H3 p=some (.dK (be kvs)):=z3.hh _ _ (z2.hh _ _ hp);have g1:=fj.k (k:=(Sum.inl k:Key)) QY;rw[Qz]at g1;refine⟨_,by rw[pd r2];exact g1,?_⟩;rw[pd r3];have e2:((Se kvs k).map V.int).getD (.int x)=.int ((Se kvs k).getD x):=by cases Se kvs k<;>rfl
   rw[e2];exact q _ F3 H3 (z2.trans z3) (by simp[Rep])
  .cases e
theorem XQ:Ze X (.builtin "len") (λxs H Q=>∃a o kvs,xs=[V.ref a]/\H a=some (.Tc o (.dK kvs))/\Q (.int kvs.length) H):=by intro pins s σ H xs us Q I r h;obtain⟨a,o,kvs,rfl,ha,q⟩:=h;obtain⟨u,rfl,ru⟩:=r.one;cases ru;exact L2.BQ I (.inr ⟨o,ha⟩) λt s' I'=>⟨.int kvs.length,H,I',⟨t,rfl⟩,q⟩
theorem Nv{p:Pos}(T:Bt X.mg)(ha:PD X m1 a f)(hg:X.env.kindOf "len"=some .globalImplicit:=by kernel_rfl)(hs:Zb a=true:=by rfl):PD X m (.Call (.Name "len" p) [a] [] pos) (za Yp f):=
 dv XQ T.len PySem.boot_len (λd y H' v Q e r k=>by
  unfold Yp at e;split at e
  .cases e;obtain⟨p,o,rfl,hp⟩:=Ls r;refine⟨⟨p,o,_,rfl,hp,?_⟩,rfl⟩;have:(be ‹_›).length=List.length ‹_›:=by unfold be;exact Y0 ..
   rw[this];exact k _ (by simp[Rep])
  .cases e) ha hg (by decide) (by decide) hs
noncomputable def YQ(K:Frag)(f:Ex):TE:=λσ H Q=>∃BF BH F env L kvs,lb K BF BH F H σ env L/\f env=some (.dct kvs)/\∀a F' H',Ext F H F' H'->H a=none->H' a=some (.dK (be kvs))->F' a=none->Q (.ref a) H'
theorem ZQ(h:PE X e (YQ X.K f))(hf:∀env d,f env=some d->∃kvs,d=.dct kvs):PD X .k e f:=PD.mk λpins s σ H Q I Ca=>Cb Ca λBF BH F env L d S e q=>by
 obtain⟨kvs,rfl⟩:=hf env d e;refine L2.Ua (h pins s σ H (λv H'=>∃a F',v=.ref a/\Ext F H F' H'/\H a=none/\H' a=some (.dK (be kvs))/\F' a=none) I ⟨BF,BH,F,env,L,kvs,S,e,λa F' H' z h0 h1 h2=>⟨a,F',rfl,z,h0,h1,h2⟩⟩) λu s' ⟨v,H',I',rv,a,F',e1,z,h0,h1,h2⟩=>?_;subst e1;obtain⟨o,I2⟩:=LD I' h1;refine⟨.ref a,_,I2,rv,q _ (upd F' a (.Tc o (.dK (be kvs)))) _ ⟨λb o hb=>?_,λb o hb=>?_,λb o hb=>?_,λb o hb=>?_⟩ ?_⟩
 .have ic:b≠a:=Vc hb h0;rw[rb ic];exact z.hh _ _ hb
 .have ic:b≠a:=Vc (S.fh _ _ hb) h0;rw[rb ic];exact z.ff _ _ hb
 .by_cases Ps:b=a
  .subst Ps;exact .inr h0
  .rw[rb Ps]at hb;exact z.dm _ _ hb
 .by_cases Ps:b=a
  .subst Ps;rw[Lb]at hb |-;exact hb
  .rw[rb Ps]at hb |-;exact z.fh _ _ hb
 .show Rep X.K (upd F' a (.Tc o (.dK (be kvs)))) (.dct kvs) (.ref a);simp only[Rep];exact⟨a,o,rfl,Lb⟩
theorem aR(ha:PD X m1 a f)(hb:PD X m2 b g):PD X .k (.Dict [some a] [b] pos) (Hs f g):=
 ZQ (PE.of (L2.OQ (L2.MQ ha.r.h hb.r.h L2.LQ) rfl rfl (by simp) (by simp)) λσ H Q Ca=>Cb Ca λBF BH F env L kvs S e q=>by
  unfold Hs at e;split at e
  .rename_i k v h1 h2;cases e;intro p hp;have z0:=Ext.own (o:=HO.dK []) S.fh hp;refine two (S.ext z0) h1 h2 λv' w F' H' z r1 r2=>?_;have Be:H' p=some (.dK []):=z.hh _ _ Lb;refine⟨Be,[(Sum.inl k,.int v)],by rw[pd r1,pd r2];rfl,by simp,?_⟩;have zz:=z0.trans z;have fp:F' p=none:=by
    cases hq:F' p with
    |none=>rfl
    |some o=>
     rcases z.dm p o hq with h'|h'
     .rw[S.fh.free hp]at h';cases h'
     .rw[Lb]at h';cases h'
   refine q p F' _ ⟨λb o hb=>?_,zz.ff,zz.dm,λb o hb=>?_⟩ hp Lb fp
   .have ic:b≠p:=Vc hb hp;rw[rb ic];exact zz.hh _ _ hb
   .have ic:b≠p:=Vc hb fp;rw[rb ic];exact zz.fh _ _ hb
  .cases e) λenv d h=>by
  unfold Hs at h;split at h
  .cases h;exact⟨_,rfl⟩
  .cases h
theorem bR:Ze X (.type "dict") (λxs H Q=>∃a o kvs,xs=[.ref a]/\H a=some (.Tc o (.dK kvs))/\∀p,H p=none->Q (.ref p) (upd H p (.dK kvs))):=by intro pins s σ H xs us Q I r h;obtain⟨a,o,kvs,rfl,ha,q⟩:=h;obtain⟨u,rfl,ru⟩:=r.one;cases ru;exact L2.TQ I (.inr ⟨o,ha⟩) λp s' hp I'=>⟨.ref p,_,I',rfl,q p hp⟩
theorem HF{K:Frag}{BF BH F F' H H':Hp}{σ:L2.St}{env:Env}{L:Nat->R0}(S:lb K BF BH F H σ env L)(z:Ext F H F' H')(i:Nat){p:Addr}{kvs:List (Int×Int)}(h0:H p=none)(h1:H' p=some (.dK (be kvs)))(h2:F' p=none):lb K BF BH F' H' (σ.set i (some (.ref p))) (env.set i (.dc kvs)) (putL L i [p]):=
 (S.ext z).set i ⟨p,rfl,rfl,h1⟩ (λa h=>by
  rw[d4]at h;subst h;exact⟨h2,S.s0.free h0,by rw[h1];simp⟩) (λa h j hj hm=>by
  rw[d4]at h;subst h;exact(S.ow j a hm).2.2 h0)
theorem IF(nd:X.N.Nodup)(i:Nat){x:Str}{p3:Pos}(T:Bt X.mg)(ha:PD X m1 a f)(hg:X.env.kindOf "dict"=some .globalImplicit:=by kernel_rfl)(Sc:Zb a=true:=by rfl)(hi:X.N[i]?=some x:=by kernel_rfl)(hx:zg X.env.scope x=true:=by kernel_rfl)(hs:swapsWith (.Call (.Name "dict" p) [a] [] p3) (some (.Name x pos')) pos.line X.env=pure false:=by rfl)(hf:Bg X x=true:=by kernel_rfl):Rb X r (.Assign [.Name x pos'] (.Call (.Name "dict" p) [a] [] p3) pos) (Mv i f):=
 Rb.mk<|PS.of (Zm nd hi (Bh hx) (To bR hg T.dict (by decide +kernel) (jd ha.r.h Sd (Gd Sc)) (by decide) (by decide) (Pc Sc) rfl) hs (Dh hf)) λD0 σ H Ca=>qd Ca λBF BH F env L o Oa S e k=>by
  unfold Mv at e;split at e
  .rename_i kvs h1;cases e;refine⟨BF,BH,F,env,L,_,S,h1,λv F' H' z rv=>?_⟩;obtain⟨p,o,rfl,hp⟩:=Ls rv;refine⟨p,o,_,rfl,hp,λq hq=>?_⟩;exact k F' _ _ _ (HF S (z.trans (Ext.own z.fh hq)) i (z.hh.free hq) Lb (z.fh.free hq)) z.ff
  .cases e
theorem cR(nd:X.N.Nodup)(i:Nat){x:Str}{p3:Pos}(hi:X.N[i]?=some x:=by kernel_rfl)(hx:zg X.env.scope x=true:=by kernel_rfl)(hs:swapsWith (.Dict [] [] p3) (some (.Name x pos')) pos.line X.env=pure false:=by rfl)(hf:Bg X x=true:=by kernel_rfl):Rb X r (.Assign [.Name x pos'] (.Dict [] [] p3) pos) (Oz i):=
 Rb.mk<|PS.of (Zm nd hi (Bh hx) L2.KQ hs (Dh hf)) λD0 σ H Ca=>qd Ca λBF BH F env L o Oa S e k=>by cases e;exact λq hq=>k F _ _ _ (HF S (Ext.own S.fh hq) i hq Lb (S.fh.free hq)) (.refl _)
theorem Fs(hu:X.A.units+64<cLine)(i:Nat){x:Str}{p1:Pos}(hb:PD X m1 b g)(ha:PD X m2 e f)(hN:X.N[i]?=some x:=by kernel_rfl)(hv:Ee X.env.scope x=true:=by kernel_rfl)(hd:(x==("__debug__":Str))=false:=by kernel_rfl)(Mb:(x==("__classdict__":Str))=false:=by kernel_rfl)(hs:swapsWith e (some (.Subscript (.Name x p1) b pos')) pos.line X.env=pure false:=by rfl):Rb X r (.Assign [.Subscript (.Name x p1) b pos'] e pos) (Xk i g f):=
 Rb.mk<|PS.of (L2.Fs (by omega) (kf hN (Cf hv) hd Mb) hb.r.h ha.r.h hs) λD0 σ H Ca=>qd Ca λBF BH F env L o Oa S e k=>by
  unfold Xk at e;split at e
  .rename_i kvs v kk he h1 h2;split at e
   .rename_i hlen;cases e;obtain⟨ov,hσ,lh⟩:=S.sl i _ he;obtain⟨p,rfl,hl,hp⟩:=lh;refine⟨BF,BH,F,env,L,_,S,h1,λv1 F1 H1 z1 r1=>⟨_,hσ,BF,BH,F1,env,L,_,S.ext z1,h2,λv2 F2 H2 z2 r2=>?_⟩⟩;have z:=z1.trans z2;have si:H2 p=some (.dK (be kvs)):=z.hh _ _ hp;refine⟨p,_,rfl,by rw[pd r1,pd r2];exact L2.Es.k (k:=(Sum.inl kk:Key)) si (by unfold be;rw[Y0];exact Y1 hlen Pr),?_⟩;rw[UQ];refine k F2 _ σ L ((S.ext z).own (i:=i) (a:=p) (by rw[hl];simp) _ λs ov e1 e2 e3=>?_) z.ff;rw[hσ]at e2;cases e2;exact⟨p,rfl,hl,Lb⟩
   .cases e
  .cases e
end
noncomputable def JF(a:Addr)(o:Obj)(kvs:List (Key×V)):It:=
 ⟨λi H=>H a=some (.Tc o (.dK kvs))/\i<kvs.length,λi H x H'=>H'=H/\∃p,kvs[i]?=some p/\x=L2.kV p.1,λi H=>H a=some (.Tc o (.dK kvs))/\kvs.length<=i⟩
theorem dR{P:Program}{w:World}{k:Key}{u:Value}(h:(sf P w).is k u=true):RelV (L2.kV k) u:=by
 rcases L2.rj (k:=k) (v:=u) h with⟨i,t,rfl,rfl⟩|⟨x,t,rfl,rfl⟩
 .exact⟨t,rfl⟩
 .exact⟨t,rfl⟩
theorem Rz{X:Cx}{pins:M0}{σ:L2.St}{H:Hp}{s:Shared}(I:Inv X pins σ H s){a:Addr}{o:Obj}{kvs:List (Key×V)}(h:H a=some (.Tc o (.dK kvs))):∃vs es ep,L2.KV kvs vs/\o.data=.dict es ep/\s.heap.DictAt (sf X.prog X.w) a vs ep/\(a==sysModules)=false:=by obtain⟨h0,z,y,vs,r,ob,es,ep,e,c1,c2,c3⟩:=I.Va a _ h;rw[h0]at e;cases e;exact⟨vs,es,ep,r,c2,⟨o,es,h0,c1,c2,c3⟩,y⟩
theorem eR{P:Program}{w:World}{K:Frag}{tg:Expr}(a it:Addr)(o:Obj)(kvs:List (Key×V))(ep:Nat)(gj:∃es,o.data=.dict es ep):Turn P w K tg (JF a o kvs) [it] it (λi h=>h.IsKeyIter it a i kvs.length ep) where
 mem:=by simp
 obj:=λi h st b hb=>by
  have e:b=it:=by simpa using hb
  subst e;obtain⟨o,e,c,d⟩:=st;exact⟨o,e,λv z=>by rw[d]at z;cases z⟩
 keep:=λi h h' st k=>st.at λo e=>k it (by simp) o e
 item:=by
  intro X hP hw hK hc i pins s σ H E I hf st hg;subst hP hw hK;obtain⟨h1,h2⟩:=hg;obtain⟨vs,es,ep',r,hd,hm,_⟩:=Rz I h1;have Sz:ep'=ep:=by obtain⟨es',gj⟩:=gj;rw[hd]at gj;cases gj;rfl
  subst Sz;obtain⟨f0,f1,f2,f3,f4,f5⟩:=hf it (by simp);have hlen:kvs.length=vs.length:=r.length;have hk:=r.keys;have hi:i<vs.length:=by omega
  have yx:vs[i].1=kvs[i].1:=by have:=p5 (λl=>l[i]?) hk;simpa[h2,hi]using this.symm
  rw[hlen]at st;refine wpAny_pyNext_dict_item st hm (k:=vs[i].1) (v:=vs[i].2) (by simp[hi]) λkey h' RY st' sb=>?_;have I1:Inv X pins σ H { s with heap:=h' }:=I.turned (t':=s.toks) (λb o hb e=>(sb.2 b hb).trans e) f0 f1 f3 f4 f5;obtain⟨oi,e,c,d⟩:=id st';rw[<-hlen]at st';exact⟨key,rfl,L2.wu (s:={ s with heap:=h' }) e c d (by decide) ⟨L2.kV kvs[i].1,H,I1,by rw[<-yx];exact dR RY,⟨rfl,kvs[i],by simp[h2],rfl⟩,st',λb hb=>(hf b hb).1⟩⟩
 done:=by
  intro X hP hw hK hc i pins s σ H E I hf st hg;subst hP hw hK;obtain⟨h1,h2⟩:=hg;obtain⟨vs,es,ep',r,hd,hm,_⟩:=Rz I h1;have Sz:ep'=ep:=by obtain⟨es',gj⟩:=gj;rw[hd]at gj;cases gj;rfl
  subst Sz;obtain⟨f0,f1,f2,f3,f4,f5⟩:=hf it (by simp);have hlen:kvs.length=vs.length:=r.length;rw[hlen]at st;exact wpAny_pyNext_dict_end (I.ok.hd hc) st hm (by simp;omega) λh' eb=>⟨rfl,I.turned (t':=s.toks) (λb o hb e=>eb b o hb e) f0 f1 f3 f4 f5⟩
 self:=λ_ _ _ _ _ st h=>wpAny_pyIter_keyiter st h
section
variable{X:Cx}{m m1:Md}{a e:Expr}{f:Ex}{tg:Expr}
noncomputable def fR(tl:TE):L2.TI:=λσ H R=>tl σ H λx H1=>∃a o kvs,x=.ref a/\H1 a=some (.Tc o (.dK kvs))/\R (JF a o kvs) H1
theorem gR{l:Expr}{tl:TE}(hl:PE X l tl):L2.PI X tg l (fR tl):=by
 intro pins s σ H R I h;refine L2.Ua (hl pins s σ H _ I h) λv s1 ⟨x,H1,I1,r1,q1⟩=>?_;obtain⟨a,o,kvs,e,hq,q⟩:=q1;subst e;cases r1;obtain⟨vs,es,ep,r,hd,hm,SY⟩:=Rz I1 hq;refine wpAny_pyIter_dict SY hm ?_;have hlen:kvs.length=vs.length:=r.length;refine⟨s1.heap.objs.size,[s1.heap.objs.size],_,_,H1,rfl,I1.kept (t':=s1.toks) λb o e=>B1 _ e,eR a _ o kvs ep ⟨es,hd⟩,⟨_,Z1 _ rfl,rfl,by rw[hlen];rfl⟩,λb hb=>?_,q⟩;have e:b=s1.heap.objs.size:=by simpa using hb
 subst e;exact I1.Qo (O1 _) (I1.Va.fresh (O1 _))
theorem Tz{tg:Expr}(ha:PD X .k a f):PId X tg a (Js f):=PI.of (gR ha.h) λσ H R Ca=>Cb Ca λBF BH F env L ds S e q=>by
 unfold Js at e;split at e
 .rename_i kvs h1;cases e;refine⟨BF,BH,F,env,L,_,S,h1,λv F' H' z r=>?_⟩;obtain⟨p,o,rfl,hp⟩:=Ls r;have Be:F' p=some (.Tc o (.dK (be kvs))):=hp;have hl:(be kvs).length=kvs.length:=by unfold be;exact Y0 ..
  refine⟨p,o,_,rfl,z.fh _ _ Be,q _ F' H' z ⟨λH2 s2=>⟨s2 _ _ Be,by rw[hl,Y0];exact O1 _⟩,λi H2 s2 hi=>⟨s2 _ _ Be,by rw[hl];rwa [Y0]at hi⟩,λi H2 x H3 F0 s1 s2 hi hy=>?_⟩⟩;obtain⟨rfl,pp,Oq,rfl⟩:=hy;rw[Y0]at hi;have e1:pp=(Sum.inl kvs[i].1,V.int kvs[i].2):=by unfold be at Oq;rw[i3,E1 hi]at Oq;exact(B3 Oq).symm
  subst e1;exact⟨.int kvs[i].1,F0,by simp[hi],.refl s2,by simp[Rep,L2.kV]⟩
 .cases e
end
section
variable{X:Cx}{m m1 m2:Md}{r:Mc}{a b e:Expr}{f g:Ex}{pos p p2 pos':Pos}
noncomputable def iR(X:Cx)(ta:TE):TE:=λσ H Q=>ta σ H λx H1=>∃y,[x]=[y]/\∃(l:Addr) (ns:K0),y=.ref l/\Cc X.K H1 l (ns.map V.int)/\ns.length<=3000/\Q (.int (seen ns).length) H1
theorem jR{p3 p4:Pos}{ta:TE}(T:Bt X.mg)(ha:PE X a ta)(hc:X.calm=true)(hg:X.env.kindOf "len"=some .globalImplicit)(Lf:X.env.kindOf "set"=some .globalImplicit)(hs:Zb a=true):PE X (.Call (.Name "len" p) [.Call (.Name "set" p3) [a] [] p4] [] pos) (iR X ta):=by
 intro pins s σ H Q I h;refine X3 (Ri I hg T.len boot_len ?_ (by decide) (by decide));refine D6 ?_ (Pc rfl) rfl;rw[Gd (env:=X.env) (e:=.Call (.Name "set" p3) [a] [] p4) rfl];show wpAny _ _ (spliced ((false,eval (.Call (.Name "set" p3) [a] [] p4) X.env)::[])) _ _ s;refine j6 (L2.Ua (Q:=λu s1=>∃(q:Addr) (ns:K0) (H1:Hp) (s0:Shared) (h':Heap) (tk:Nat),u=.ref q/\s1={ s0 with heap:=h',toks:=tk }/\Inv X pins σ H1 s0/\(∀b o,s0.heap.get? b=some o->h'.get? b=some o)/\
   Gh X.prog X.w h' q (!Re X.w) (seen ns)/\Q (.int (seen ns).length) H1) ?inner λu s1 hu=>d7 ?outer)
 case inner=>
  refine X3 (Ri I Lf T.set R9 ?_ (by decide) (by decide));refine N4 (L2.Ua (jd ha Sd (Gd hs) p4 pins s σ H (λxs H1=>∃x,xs=[x]/\∃(l:Addr) (ns:K0),x=.ref l/\Cc X.K H1 l (ns.map V.int)/\ns.length<=3000/\Q (.int (seen ns).length) H1) I h) λus s1 ⟨xs,H1,I1,r1,q1⟩=>?_) (Pc hs) rfl;obtain⟨x,rfl,l,ns,rfl,hS,h3,q⟩:=q1;obtain⟨u,rfl,ru⟩:=r1.one;cases ru;obtain⟨its,r,p,z⟩:=I1.list hS;have hi:=Tl r;refine JE (I1.ok.hd hc) p.isList (by simpa using hi) (by rw[show scanBound=4096 from rfl];omega) λh' tk hX hk=>?_;exact⟨_,ns,H1,s1,h',tk,rfl,rfl,I1,λb o e=>hk b o (N1 e) e,hX,q⟩
 case outer=>
  obtain⟨q,ns,H1,s0,h',tk,rfl,rfl,I1,hk,hX,k⟩:=hu;obtain⟨o,es,ep,t,ho,hO⟩:=hX;have Ut:=hO.few;refine call_len_set (s:={ s0 with heap:=h',toks:=tk }) ho hO.ex hO.dat hO.fit (by rw[show scanBound=4096 from rfl]at Ut;omega) ?_;rw[hO.len];exact⟨.int _,H1,I1.kept hk,⟨_,rfl⟩,k⟩
theorem kR{p3 p4:Pos}(T:Bt X.mg)(ha:PD X m1 a f)(hc:X.calm=true:=by rfl)(hg:X.env.kindOf "len"=some .globalImplicit:=by kernel_rfl)(Lf:X.env.kindOf "set"=some .globalImplicit:=by kernel_rfl)(hs:Zb a=true:=by rfl):PD X m (.Call (.Name "len" p) [.Call (.Name "set" p3) [a] [] p4] [] pos) (za Pz f):=
 PD.mk<|PE.of (jR T ha.r.h hc hg Lf hs) λσ H Q Ca=>Cb Ca λBF BH F env L d S e q=>by
  unfold za at e;split at e
  .rename_i x hx;refine⟨BF,BH,F,env,L,_,S,hx,λv F' H' z rx=>?_⟩;unfold Pz at e;split at e
   .split at e
    .rename_i xs ns hn;split at e
     .rename_i h3;cases e;have ex:=ints_of hn;subst ex;simp only[Rep]at rx;obtain⟨l,vs,rfl,hS,hr⟩:=rx;have ev:=As hr;subst ev;exact⟨_,rfl,l,ns,rfl,hS,h3,q _ F' H' z (by simp[Rep])⟩
     .cases e
    .cases e
   .cases e
  .cases e
end
section
variable{X:Cx}{m m1 m2:Md}{r:Mc}{a b e:Expr}{f g:Ex}{pos p p2 pos':Pos}
theorem LF{j}:Ug X (.Constant .none j pos) (eC .non):=⟨PE.of VB λσ H Q Ca=>Cb Ca λBF BH F env L d S e q=>by cases e;exact q _ F H (.refl S.fh) (by simp[zc])⟩
end
theorem Uz(xs:W0):(Dg 0 xs).length=xs.length:=by
 have:∀(k:Nat) (xs:W0),(Dg k xs).length=xs.length:=by
  intro k xs;induction xs generalizing k with
  |nil=>rfl
  |cons x xs ih=>simp[Dg,ih]
 exact this 0 xs
theorem lR{xs:W0}{i:Nat}{d:D}(h:xs[i]?=some d):(Dg 0 xs)[i]?=some (.tup [.int i,d]):=by
 have:∀(k i:Nat) (xs:W0),xs[i]?=some d->(Dg k xs)[i]?=some (.tup [.int ((k+i:Nat):Int),d]):=by
  intro k i xs;induction xs generalizing k i with
  |nil=>intro h;simp at h
  |cons x xs ih=>
   intro h;cases i with
   |zero=>simp at h;subst h;simp[Dg]
   |succ i=>simp at h;simp only[Dg,m6];rw[ih (k+1) i h];congr 4;omega
 have:=this 0 i xs h;simpa using this
noncomputable def Ite(K:Frag)(a:Addr):It:=
 ⟨λi H=>∃xs x,Cc K H a xs/\xs[i]?=some x,λi H v H'=>∃p x,H p=none/\v=.ref p/\H'=upd H p (.tup [.int i,x])/\∀xs,Cc K H a xs->xs[i]?=some x,λi H=>∃xs,Cc K H a xs/\xs.length<=i⟩
theorem mR{X:Cx}{pins:M0}{σ:L2.St}{H:Hp}{s:Shared}{e it p:Addr}{h':Heap}{t':Nat}{xs:U0}(I:Inv X pins σ H s)(fe:qh X pins H e)(fi:qh X pins H it)(hp:s.heap.objs.size<=p)(k:∀b o,b≠e->b≠it->s.heap.get? b=some o->h'.get? b=some o)(ke:∃o,h'.get? e=some o)(ki:∃o,h'.get? it=some o)(new:de X.prog X.w (upd H p (.tup xs)) h' p (.tup xs)):Inv X pins σ (upd H p (.tup xs)) { s with heap:=h',toks:=t' }:=by
 have hn:=I.Va.fresh hp;refine I.step (g':=s.gens) (d':=s.drawn) (ch:=[e,it]) (λb hb=>?_) (λb o _ _ hc q _=>k b o (λz=>hc (by simp[z])) (λz=>hc (by simp[z])) q) (λb o _ _ hc q _=>⟨o.slots,k b o (λz=>hc (by simp[z])) (λz=>hc (by simp[z])) q⟩) (λb o hc q n=>?_)
  (λb o hc q=>⟨o,k b o (λz=>hc (by simp[z])) (λz=>hc (by simp[z])) q⟩) (λb ys q=>?_) (λb o u q=>?_) (λb ps q=>⟨#[],?_⟩) (λm hm=>?_) (λb u q=>?_) I.bare
 .simp at hb;rcases hb with rfl|rfl
  .exact⟨fe.2.2.2.1,fe.2.1,fe.2.2.2.2.1,fe.2.2.2.2.2⟩
  .exact⟨fi.2.2.2.1,fi.2.1,fi.2.2.2.2.1,fi.2.2.2.2.2⟩
 .have:b≠p:=λz=>by subst z;exact absurd (Y1 (N1 q) hp) (O4 _)
  rw[rb this];exact n
 .rw[rb (Vc q hn)];exact q
 .rw[rb (Vc q hn)];exact q
 .rw[rb (Vc q hn),q];simp
 .obtain⟨o,es,ep,ho,r⟩:=hm;exact⟨o,es,ep,k _ o (U3 fe.2.1) (U3 fi.2.1) ho,r⟩
 .by_cases hb:b=p
  .subst hb;rw[Lb]at q;cases q;exact new
  .rw[rb hb]at q;refine(I.Va b u q).stay (λc v hc z=>k c v ?_ ?_ z) (λc z=>by rw[rb (Vc z hn)];exact z) λc ys z=>by rw[rb (Vc z hn)];exact z
   .rcases hc with z'|z'
    .rw[z'];exact Vc q fe.1
    .exact Vc z' fe.1
   .rcases hc with z'|z'
    .rw[z'];exact Vc q fi.1
    .exact Vc z' fi.1
theorem nR{P:Program}{w:World}{K:Frag}{elts:T0}{x1}{tp:Pos}(a e it:Addr)(ic:e≠it):Turn P w K (.Tuple elts x1 tp) (Ite K a) [e,it] e (λi h=>(∃old,IsEnum h e it i old)/\h.IsListIter it a i) where
 mem:=by simp
 obj:=λi h st b hb=>by
  obtain⟨⟨old,h1⟩,o,h2,c,d⟩:=st;simp at hb;rcases hb with rfl|rfl
  .exact⟨_,h1,λv z=>by cases z⟩
  .exact⟨o,h2,λv z=>by rw[d]at z;cases z⟩
 keep:=λi h h' st k=>⟨let ⟨old,h1⟩:=st.1;⟨old,k e (by simp) _ h1⟩,st.2.at λo q=>k it (by simp) o q⟩
 item:=by
  intro X hP hw hK hc i pins s σ H E I hf st hg;subst hP hw hK;obtain⟨xs,x,hq,hx⟩:=hg;obtain⟨its,rv,p,hz⟩:=I.list hq;obtain⟨u,hu,ru⟩:=rv.get hx;obtain⟨⟨old,st1⟩,st2⟩:=st;refine wpAny_pyNext_enum_item st1 st2 p.isList (x:=u) (by simpa using hu) ic λh' b1 b2 b3 b4 b5=>?_;refine⟨_,rfl,wpAny_letOwnedTupleGo_enum (s:={ s with heap:=h',toks:=s.toks+1 }) b1 λh2 c1 c2=>?_⟩;have gj:e≠s.heap.objs.size:=J2 (N1 st1);have Qm:h2.IsListIter it a (i+1):=b2.at λo q=>(c2.2 it (U3 ic)).trans q;have kk:∀b o,b≠e->b≠it->s.heap.get? b=some o->h2.get? b=some o:=λb o h1 h3 q=>(c2.2 b h1).trans (b5 b o h1 h3 q);have tup:h2.get? s.heap.objs.size=some { cls:=.type "tuple",data:=.seq #[.int i s.toks,u] }:=(c2.2 _ (U3 gj)).trans b3;have I2:Inv X pins σ (upd H s.heap.objs.size (.tup [.int i,x])) { s with heap:=h2,toks:=s.toks+1 }:=mR I (hf e (by simp)) (hf it (by simp)) (O1 _) kk ⟨_,c1⟩ (let ⟨o,q,_⟩:=Qm;⟨o,q⟩) ⟨by rw[M3];simp,[.int i s.toks,u],.cons ⟨_,rfl⟩ (.cons ru .nil),⟨_,tup,rfl,_,rfl⟩⟩;refine⟨.ref s.heap.objs.size,_,I2,rfl,⟨_,x,I.Va.fresh (O1 _),rfl,rfl,λys hy=>by rw[I.XB hy hq];exact hx⟩,⟨⟨u,by simpa using c1⟩,Qm⟩,λb hb=>?_⟩;have Kl:b≠s.heap.objs.size:=by
   simp at hb;rcases hb with rfl|rfl
   .exact gj
   .obtain⟨o,q,_⟩:=st2;exact J2 (N1 q)
  rw[rb Kl];exact(hf b hb).1
 done:=by intro X hP hw hK hc i pins s σ H E I hf st hg;subst hP hw hK;obtain⟨xs,hq,hx⟩:=hg;obtain⟨its,rv,p,hz⟩:=I.list hq;obtain⟨⟨old,st1⟩,st2⟩:=st;have hl:=rv.length;obtain⟨f0,f1,f2,f3,f4,f5⟩:=hf it (by simp);exact wpAny_pyNext_enum_end (I.ok.hd hc) st1 st2 p.isList (by simp;omega) λh' eb=>⟨rfl,I.turned (t':=s.toks) (λb o hb q=>eb b o hb q) f0 f1 f3 f4 f5⟩
 self:=λ_ _ _ _ _ st h=>let ⟨_,he⟩:=st.1;Zaq he h
section
variable{X:Cx}{m m1:Md}{a e:Expr}{f:Ex}{p pos:Pos}
noncomputable def oR(K:Frag)(tl:TE):L2.TI:=λσ H R=>tl σ H λx H1=>∃y,[x]=[y]/\∃a,y=.ref a/\(∃xs,Cc K H1 a xs)/\R (Ite K a) H1
theorem pR{elts:T0}{x1}{tp:Pos}{tl:TE}(T:Bt X.mg)(ha:PE X a tl)(hg:X.env.kindOf "enumerate"=some .globalImplicit)(hs:Zb a=true):L2.PI X (.Tuple elts x1 tp) (.Call (.Name "enumerate" p) [a] [] pos) (oR X.K tl):=by
 intro pins s σ H R I h;refine X3 (Ri (u:=.type "enumerate") I hg T.enumerate (by decide +kernel) ?_ (by decide) (by decide));refine N4 (L2.Ua (jd ha Sd (Gd hs) pos pins s σ H (λxs H1=>∃x,xs=[x]/\∃a,x=.ref a/\(∃ys,Cc X.K H1 a ys)/\R (Ite X.K a) H1) I h) λus s1 ⟨xs,H1,I1,r1,q1⟩=>?_) (Pc hs) rfl;obtain⟨x,rfl,l,rfl,⟨ys,hq⟩,q⟩:=q1;obtain⟨u,rfl,ru⟩:=r1.one;cases ru;obtain⟨its,rv,pl,hz⟩:=I1.list hq;refine call_enumerate_list pl.isList λh' he hi hsz hk=>?_;refine Zaq (s:={ s1 with heap:=h' }) he ?_;refine⟨s1.heap.objs.size+1,[s1.heap.objs.size+1,s1.heap.objs.size],_,_,H1,rfl,I1.kept (t':=s1.toks) hk,nR l _ _ (Nat.succ_ne_self _),⟨⟨_,he⟩,hi⟩,λb hb=>?_,q⟩;simp at hb;rcases hb with rfl|rfl
 .exact I1.Qo (m5 _) (I1.Va.fresh (m5 _))
 .exact I1.Qo (O1 _) (I1.Va.fresh (O1 _))
theorem qR{elts:T0}{x1}{tp:Pos}(T:Bt X.mg)(ha:PD X .k a f)(hg:X.env.kindOf "enumerate"=some .globalImplicit:=by kernel_rfl)(hs:Zb a=true:=by rfl):PId X (.Tuple elts x1 tp) (.Call (.Name "enumerate" p) [a] [] pos) (Ks f):=PI.of (pR T ha.h hg hs) λσ H R Ca=>Cb Ca λBF BH F env L ds S e q=>by
 unfold Ks at e;split at e
 .rename_i xs h1;cases e;refine⟨BF,BH,F,env,L,_,S,h1,λv F' H' z r=>?_⟩;have r':Rep X.K F' (.lst xs) v:=r;simp only[Rep]at r';obtain⟨p,vs,rfl,hs,t⟩:=r';have hlen:=t.length;refine⟨_,rfl,p,rfl,⟨vs,z.fh.seq hs⟩,q _ F' H' z ⟨λH2 s2=>⟨vs,s2.seq hs,by rw[Uz,hlen];exact O1 _⟩,λi H2 s2 hi=>?_,λi H2 x H3 F0 s1 s2 hi hy=>?_⟩⟩
  .rw[Uz]at hi;exact⟨vs,vs[i]'(by omega),s2.seq hs,by simp⟩
  .rw[Uz]at hi;obtain⟨pp,y,Oq,rfl,rfl,hx⟩:=hy;have TY:=hx vs ((s1.trans s2).seq hs);obtain⟨d,k1,k2⟩:=t.Ap TY;refine⟨.tup [.int i,d],upd F0 pp (.tup [.int i,y]),lR k1,Ext.laid s2 Oq,?_⟩;simp only[Rep,Ba];exact⟨pp,_,rfl,.inl (.inl Lb),_,_,rfl,rfl,_,_,rfl,Rep.mono (λb o hb=>by rw[rb (Vc (s2 _ _ (s1 _ _ hb)) Oq)];exact s1 _ _ hb) _ _ k2,rfl⟩
 .cases e
theorem rR(nd:X.N.Nodup)(i j:Nat){x y:Str}{p1 p2 p3:Pos}{k:Nat}(hc:X.calm=true:=by rfl)(hi:X.N[i]?=some x:=by kernel_rfl)(hx:zg X.env.scope x=true:=by kernel_rfl)(hf:Bg X x=true:=by kernel_rfl)(hj:X.N[j]?=some y:=by kernel_rfl)(hy:zg X.env.scope y=true:=by kernel_rfl)(UY:Bg X y=true:=by kernel_rfl)(h2:(assignEach [.Name x p1,.Name y p2] X.env).map (·.2)=assign (.Name x p1) X.env::(assignEach [.Name y p2] X.env).map (·.2):=by rfl)(h3:(assignEach [.Name y p2] X.env).map (·.2)=assign (.Name y p2) X.env::(assignEach [] X.env).map (·.2):=by rfl)(h4:(assignEach [.Name x p1,.Name y p2] X.env).length=2:=by rfl)(h5:(assignEach [.Name x p1,.Name y p2] X.env).findIdx? (·.1)=none:=by rfl):sv X (.Tuple [.Name x p1,.Name y p2] k p3) (g2 i j):=
 λpins s σ H v u Q I r ⟨BF,BH,F,env,L,d,Hk,S,rd,e,kk⟩=>L2.BK hc (ZB (tu nd hi (Bh hx) (Dh hf)) (ZB (tu nd hj (Bh hy) (Dh UY)) L2.zK h3) h2) h4 h5 pins s σ H v u Q I r (by
  unfold g2 at e;split at e
  .rename_i d1 d2;cases e;simp only[Rep,Ba]at rd;obtain⟨a,vs,rfl,hS,v1,r1,rfl,e1,v2,r2,rfl,e2,rfl⟩:=rd;exact⟨a,_,rfl,Ij S.fh hS,rfl,v1,[v2],rfl,v2,[],rfl,rfl,kk F H _ _ ((S.Kn i e1).Kn j e2) (.refl _)⟩
  .cases e)
end
noncomputable def strs?:W0->Option Q0
 |[]=>some []
 |.str x::xs=>match strs? xs with
  |some r=>some (x::r)
  |none=>none
 |_::_=>none
noncomputable def Qn(sep:Str):D->Option D
 |.lst xs=>match strs? xs with
  |some l=>if PySem.JoinOk sep l=true then some (.str (PySem.Txt.join sep l))else none
  |none=>none
 |_=>none
noncomputable def Zp:D->Option D
 |.int i=>if i.natAbs.log2<1920 then some (.str (toString i))else none
 |_=>none
noncomputable def ij:D->Option D
 |.int i=>some (.int i)
 |.bl k=>some (.int (if k then 1 else 0))
 |_=>none
theorem MF:∀{xs:W0} {l:Q0},strs? xs=some l->xs=l.map D.str
 |[],l,h=>by simp only[strs?]at h;cases h;rfl
 |.str x::xs,l,h=>by
  simp only[strs?]at h;split at h
  .rename_i r hr;cases h;rw[MF hr];rfl
  .cases h
 |.non::_,_,h=>by simp[strs?]at h
 |.bl _::_,_,h=>by simp[strs?]at h
 |.int _::_,_,h=>by simp[strs?]at h
 |.lst _::_,_,h=>by simp[strs?]at h
 |.tup _::_,_,h=>by simp[strs?]at h
 |.dct _::_,_,h=>by simp[strs?]at h
theorem sR{K:Frag}{H:Hp}{x:Str}{v:V}(h:Rep K H (.str x) v):v=.str x:=by simp only[Rep]at h;exact h
theorem NF{K:Frag}{H:Hp}:∀{l:Q0} {vs:U0},Ba K H (l.map D.str) vs->vs=l.map V.str
 |[],vs,h=>by simp only[V6,Ba]at h;exact h
 |x::l,vs,h=>by simp only[V1,Ba]at h;obtain⟨v,r,rfl,h2,h3⟩:=h;rw[sR h2,NF h3];rfl
theorem OF:∀{l:Q0} {us:P0},Vals (l.map V.str) us->∃q:List (Str×Tok),us=strValues q/\q.map (·.1)=l
 |[],_,.nil=>⟨[],rfl,rfl⟩
 |x::l,_,.cons h r=>by obtain⟨t,rfl⟩:=h;obtain⟨q,rfl,rfl⟩:=OF r;exact⟨(x,t)::q,rfl,rfl⟩
section
variable{X:Cx}{m m1 m2:Md}{r:Mc}{a b e:Expr}{f g:Ex}{pos p p2:Pos}
noncomputable def rJoin(K:Frag):V->U0->Hp->VK->Prop:=λx vs H Q=>∃(sep:Str) (l:Addr) (ss:Q0),x=.str sep/\vs=[.ref l]/\Cc K H l (ss.map V.str)/\JoinOk sep ss=true/\Q (.str (Txt.join sep ss)) H
theorem tR:Rl X "str.join" (rJoin X.K):=by intro pins s σ H x vs v us Q I rx rv h;obtain⟨sep,l,ss,rfl,rfl,hS,Va,q⟩:=h;obtain⟨t,rfl⟩:=rx;obtain⟨u,rfl,ru⟩:=rv.one;cases ru;obtain⟨its,r,pl,z⟩:=I.list hS;obtain⟨q',rfl,e⟩:=OF r;exact SC.join pl.isList e Va λt' k=>⟨.str _,H,I.tok k,⟨t',rfl⟩,q⟩
theorem PF{sep:Str}{j}{p1 p3 p4:Pos}(ha:PD X m1 a f)(Sc:Zb a=true:=by rfl)(gf:attributeBase (.Constant (.str sep) j p1) "join" X.env (eval (.Constant (.str sep) j p1) X.env)=eval (.Constant (.str sep) j p1) X.env:=by rfl)(jf:(p3.endLine==p4.line)=true:=by rfl):PD X m (.Call (.Attribute (.Constant (.str sep) j p1) "join" p3) [a] [] p4) (za (Qn sep) f):=
 PD.mk<|PE.of (Ek F.plainAttrs_str F.slot_str_join F.type_str_join tR Qx (jd ha.r.h Sd (Gd Sc)) gf (by rw[Kj (Lj Sc)];rfl) jf (Pc Sc) rfl) λσ H Q Ca=>Cb Ca λBF BH F env L d S e q=>by
  unfold za at e;split at e
  .rename_i x hx;refine⟨rfl,BF,BH,F,env,L,x,S,hx,λv F' H' z rx=>?_⟩;unfold Qn at e;split at e
   .split at e
    .rename_i xs l hl;split at e
     .rename_i Va;cases e;have ex:=MF hl;subst ex;simp only[Rep]at rx;obtain⟨p,vs,rfl,hS,hr⟩:=rx;have ev:=NF hr;subst ev;exact⟨sep,p,l,rfl,rfl,hS,Va,q _ F' H' z (by simp[Rep])⟩
     .cases e
    .cases e
   .cases e
  .cases e
theorem QF{x:Str}{id:String}{p:Pos}{r:U0->Hp->VK->Prop}{φ:D->Option D}(hc:Ze X (.type id) r)(hm:X.mg x=none)(hv:bootBuiltins x=some (.type id))(hφ:∀d y H' v (Q:V->Hp->Prop),φ d=some y->Rep X.K H' d v->(∀w,Rep X.K H' y w->Q w H')->r [v] H' Q/\xh y=true)(ha:PD X m1 a f)(hg:X.env.kindOf x=some .globalImplicit:=by kernel_rfl)(hn:x≠"__name__":=by decide)(Vd:(x==("__debug__":Str))=false:=by kernel_rfl)(hs:Zb a=true:=by rfl):PD X m (.Call (.Name x p) [a] [] pos) (za φ f):=
 PD.mk<|PE.of (To hc hg hm hv (jd ha.r.h Sd (Gd hs)) hn Vd (Pc hs) rfl) λσ H Q Ca=>Cb Ca λBF BH F env L d S e q=>by
  unfold za at e;split at e
  .rename_i y h1;refine⟨BF,BH,F,env,L,y,S,h1,λv F' H' z r1=>?_⟩;have sc:=(hφ y d H' v (λ_ _=>True) e r1 (λ_ _=>trivial)).2;exact(hφ y d H' v Q e r1 λw rw=>q w F' H' z (rw.Vu sc)).1
  .cases e
theorem uR{p:Pos}(T:Bt X.mg)(ha:PD X m1 a f)(hg:X.env.kindOf "str"=some .globalImplicit:=by kernel_rfl)(hs:Zb a=true:=by rfl):PD X m (.Call (.Name "str" p) [a] [] pos) (za Zp f):=
 QF L2.nL T.str (by decide +kernel) (λd y H' v Q e r k=>by
  unfold Zp at e;split at e
  .split at e
   .rename_i i hi;cases e;exact⟨⟨i,by rw[pd r],hi,k _ (by simp[Rep])⟩,rfl⟩
   .cases e
  .cases e) ha hg (by decide) (by decide) hs
theorem Vz{p:Pos}(T:Bt X.mg)(ha:PD X m1 a f)(hg:X.env.kindOf "int"=some .globalImplicit:=by kernel_rfl)(hs:Zb a=true:=by rfl):PD X m (.Call (.Name "int" p) [a] [] pos) (za ij f):=
 QF L2.mL T.int (by decide +kernel) (λd y H' v Q e r k=>by
  unfold ij at e;split at e
  .cases e;exact⟨.inl ⟨_,by rw[pd r],k _ (by simp[Rep])⟩,rfl⟩
  .cases e;exact⟨.inr ⟨_,by rw[Ep r],k _ (by simp[Rep])⟩,rfl⟩
  .cases e) ha hg (by decide) (by decide) hs
end
noncomputable def aq(i:Nat)(a b:Ex):St:=λenv=>match env[i]?,a env,b env with
 |some (.tab rs),some (.int n),some (.int k)=>match we rs.length n with
  |some j=>match rs[j]? with
   |some r=>if 0<=k/\k<r.length/\r.length<=lim then some (.nx,env.set i (.tab (rs.set j (r.eraseIdx k.toNat))))else none
   |none=>none
  |none=>none
 |_,_,_=>none
noncomputable def bq(i:Nat)(a b:Ex)(c:Int):St:=λenv=>match env[i]?,a env,b env with
 |some (.tab rs),some (.int n),some (.int k)=>match we rs.length n with
  |some j=>match rs[j]? with
   |some r=>if 0<=k/\k<=r.length/\r.length<lim then some (.nx,env.set i (.tab (rs.set j (r.insertIdx k.toNat (.int c)))))else none
   |none=>none
  |none=>none
 |_,_,_=>none
section
variable{X:Cx}{m m1 m2:Md}{r:Mc}{a b e:Expr}{f g fa fb:Ex}{pos:Pos}
theorem Ov{K:Frag}{BF BH F H F2 H2:Hp}{σ:L2.St}{env:Env}{L:Nat->R0}(S:lb K BF BH F H σ env L)(z:Ext F H F2 H2){i:Nat}{rs:List W0}(he:env[i]?=some (.tab rs)){n:Int}{j:Nat}(hj:we rs.length n=some j){r0:W0}(hr:rs[j]?=some r0):∃(p ra:Addr) (as:R0) (vs:U0),σ[i]?=some (some (.ref p))/\H2 p=some (.lst (as.map V.ref))/\vi (as.map V.ref) n=some (.ref ra)/\H2 ra=some (.lst vs)/\Ba K F2 r0 vs/\∀(r1:W0) (ws:U0),Ba K F2 r1 ws->lb K BF BH F2 (upd H2 ra (.lst ws)) σ (env.set i (.tab (rs.set j r1))) L:=by
 obtain⟨ov,hσ,lh⟩:=S.sl i _ he;obtain⟨p,as,rfl,hl,nd,hp,ci⟩:=lh;have S2:=S.ext z;obtain⟨ra,vs,g1,g2,g3⟩:=ci.get hr;have zB:as.length=rs.length:=ci.length.symm;have ni:vi (as.map V.ref) n=some (.ref ra):=by unfold vi;rw[Y0,zB];show((we rs.length n).bind λj=>(as.map V.ref)[j]?)=_;rw[hj];show(as.map V.ref)[j]?=_;rw[i3,g1];rfl
 refine⟨p,ra,as,vs,hσ,z.hh _ _ hp,ni,z.hh _ _ g2,Ba.mono z.ff _ _ g3,λr1 ws rr=>?_⟩;have Jl:ra∈as:=V2 g1;obtain⟨n1,n2⟩:=T2.mp nd;refine S2.own (i:=i) (a:=ra) (by rw[hl];exact M1 _ Jl) _ λs ov e1 e2 e3=>?_;rw[hσ]at e2;cases e2;refine⟨p,as,rfl,hl,nd,?_,?_⟩
 .rw[rb (λq=>n1 (by rw[q];exact Jl))];exact z.hh _ _ hp
 .have Uy:Yd K F2 H2 rs as:=ci.mono z.ff λb _ o q=>z.hh _ _ q;exact Uy.set n2 g1 rr
theorem Ba.erase{K:Frag}{H:Hp}:∀{ds:W0} {vs:U0} (k:Nat),Ba K H ds vs->Ba K H (ds.eraseIdx k) (vs.eraseIdx k)
 |[],vs,k,h=>by simp only[Ba]at h;subst h;simp[Ba]
 |d::ds,vs,k,h=>by
  simp only[Ba]at h;obtain⟨v,t,rfl,h2,h3⟩:=h;cases k with
  |zero=>simpa using h3
  |succ k=>simp only[D7];exact Ba.cons h2 (Ba.erase k h3)
theorem vR(i:Nat){x:Str}{p1 p2 p3 p4 p6:Pos}(hq:PD X m1 a fa)(hb:PD X m2 b fb)(hN:X.N[i]?=some x:=by kernel_rfl)(hv:Ee X.env.scope x=true:=by kernel_rfl)(hd:(x==("__debug__":Str))=false:=by kernel_rfl)(Mb:(x==("__classdict__":Str))=false:=by kernel_rfl)(Xt:Yq a:=by exact λ_ _=>rfl)(Sc:Zb b=true:=by rfl)(gf:attributeBase (.Subscript (.Name x p1) a p6) "pop" X.env (eval (.Subscript (.Name x p1) a p6) X.env)=eval (.Subscript (.Name x p1) a p6) X.env:=by rfl)(jf:(p2.endLine==p3.line)=true:=by rfl)(Kf:swapsWith (.Call (.Attribute (.Subscript (.Name x p1) a p6) "pop" p2) [b] [] p3) none p4.line X.env=pure false:=by rfl):Rb X r (.Expr (.Call (.Attribute (.Subscript (.Name x p1) a p6) "pop" p2) [b] [] p3) p4) (aq i fa fb):=
 Rb.mk<|PS.of (Po (Ek m4 PySem.F.slot_list_pop PySem.F.type_list_pop L2.kM (Au Bu (kf hN (Cf hv) hd Mb) hq.h Xt) (jd hb.h Sd (Gd Sc)) gf (by rw[Kj (Lj Sc)];rfl) jf (Pc Sc) rfl) Kf) λD0 σ H Ca=>qd Ca λBF BH F env L o Oa S e kk=>by
  unfold aq at e;split at e
  .rename_i rs n k he h3 h4;split at e
   .rename_i j hj;split at e
    .rename_i r0 hr;split at e
     .rename_i hlen;cases e;obtain⟨ov,hσ,lh⟩:=S.sl i _ he;obtain⟨p0,as0,rfl,lh⟩:=lh;refine⟨_,hσ,BF,BH,F,env,L,_,S,h3,λw F1 H1 z1 r1=>?_⟩;obtain⟨p,ra,as,vs,hσ',hp,ni,Jl,rr,fin⟩:=Ov S z1 he hj hr;rw[hσ]at hσ';cases hσ';refine⟨_,as.map V.ref,n,.ref ra,rfl,pd r1,.inl (.inl hp),ni,Jp Jl,?_⟩;refine⟨BF,BH,F1,env,L,_,S.ext z1,h4,λw2 F2 H2 z2 r2=>?_⟩;obtain⟨p',wR,as',vs',Qs,si,Ss,Wz,Ts,fin2⟩:=Ov S (z1.trans z2) he hj hr;rw[hσ]at Qs;cases Qs;have e1:as'.map V.ref=as.map V.ref:=by
       have:=(z2.hh _ _ hp).symm.trans si;injection this with this;injection this with this;exact this.symm
      rw[e1,ni]at Ss;cases Ss;have Qm:=Ts.length;have hk:k.toNat<vs'.length:=by omega
      have Us:lim=100000:=rfl;refine⟨ra,vs',k,k.toNat,vs'[k.toNat],rfl,by rw[pd r2],Wz,by omega,by omega,?_,E1 hk,kk F2 _ σ L (fin2 _ _ (Ts.erase _)) (z1.trans z2).ff⟩;have kx:¬(k<0):=by omega
      have du:k<(vs'.length:Int):=by omega
      simp[seqIndex?,kx,du]
     .cases e
    .cases e
   .cases e
  .cases e
theorem xR(i:Nat){x:Str}{c:Int}{j2}{p1 p2 p3 p4 p6 p7:Pos}(hq:PD X m1 a fa)(hb:PD X m2 b fb)(hN:X.N[i]?=some x:=by kernel_rfl)(hv:Ee X.env.scope x=true:=by kernel_rfl)(hd:(x==("__debug__":Str))=false:=by kernel_rfl)(Mb:(x==("__classdict__":Str))=false:=by kernel_rfl)(Xt:Yq a:=by exact λ_ _=>rfl)(Sc:Zb b=true:=by rfl)(gf:attributeBase (.Subscript (.Name x p1) a p6) "insert" X.env (eval (.Subscript (.Name x p1) a p6) X.env)=eval (.Subscript (.Name x p1) a p6) X.env:=by rfl)(jf:(p2.endLine==p3.line)=true:=by rfl)(Kf:swapsWith (.Call (.Attribute (.Subscript (.Name x p1) a p6) "insert" p2) [b,.Constant (.int c) j2 p7] [] p3) none p4.line X.env=pure false:=by rfl):Rb X r (.Expr (.Call (.Attribute (.Subscript (.Name x p1) a p6) "insert" p2) [b,.Constant (.int c) j2 p7] [] p3) p4) (bq i fa fb c):=
 Rb.mk<|PS.of (Po (Ek m4 j7 a9 MD (Au Bu (kf hN (Cf hv) hd Mb) hq.h Xt) (jd hb.h (jd Px Sd (Gd rfl)) (Pc Sc)) gf (by rw[Kj (qD Sc rfl)];rfl) jf (Pc Sc) (Pk (Lj rfl))) Kf) λD0 σ H Ca=>qd Ca λBF BH F env L o Oa S e kk=>by
  unfold bq at e;split at e
  .rename_i rs n k he h3 h4;split at e
   .rename_i j hj;split at e
    .rename_i r0 hr;split at e
     .rename_i hlen;cases e;obtain⟨ov,hσ,lh⟩:=S.sl i _ he;obtain⟨p0,as0,rfl,lh⟩:=lh;refine⟨_,hσ,BF,BH,F,env,L,_,S,h3,λw F1 H1 z1 r1=>?_⟩;obtain⟨p,ra,as,vs,hσ',hp,ni,Jl,rr,fin⟩:=Ov S z1 he hj hr;rw[hσ]at hσ';cases hσ';refine⟨_,as.map V.ref,n,.ref ra,rfl,pd r1,.inl (.inl hp),ni,Jp Jl,?_⟩;refine⟨BF,BH,F1,env,L,_,S.ext z1,h4,λw2 F2 H2 z2 r2=>?_⟩;obtain⟨p',wR,as',vs',Qs,si,Ss,Wz,Ts,fin2⟩:=Ov S (z1.trans z2) he hj hr;rw[hσ]at Qs;cases Qs;have e1:as'.map V.ref=as.map V.ref:=by
       have:=(z2.hh _ _ hp).symm.trans si;injection this with this;injection this with this;exact this.symm
      rw[e1,ni]at Ss;cases Ss;have Qm:=Ts.length;obtain rfl:=pd r2;exact⟨ra,vs',k,.int c,rfl,rfl,Wz,hlen.1,by omega,by omega,kk F2 _ σ L (fin2 _ _ (Ts.insertIdx (by simp[Rep]) _)) (z1.trans z2).ff⟩
     .cases e
    .cases e
   .cases e
  .cases e
end
section
variable{X:Cx}{sc:Scope}{x:Str}{px pos:Pos}{iter elt:Expr}{lx:Lx}{f:Ex}
variable(qc:∀e s,X.xe e s->False)(nd:X.N.Nodup)
include qc nd
theorem yR(i:Nat)(hI:PId X (.Name x px) iter lx)(hE:∀cs C s0 H0 fp pn,ze (blk X X.env.scope sc cs C s0 H0 fp pn) .k elt f)(hf:∀env d,f env=some d->∃ds,d=.lst ds)(hc:X.calm=true:=by rfl)(nh:Oj X.N X.env.scope sc x=true:=by kernel_rfl)(hi:X.N[i]?=some x:=by kernel_rfl)(hs:∀x,foldedSetIterable iter X.env x=pure x:=by intro _;rfl):um X (.ListComp elt [⟨.Name x px,iter,[],0⟩] sc pos) (cb i lx xb f):=
 PE.of (bz (te:=tO X.K .k f) qc hc nd (Lp nh) hi hI (λ_ _ _ _ _ _=>yv) hE hs) λσ H Q Ca=>Cb Ca λBF BH F env L d S e q=>by obtain⟨ds,xs',h2,hl,h3,e2⟩:=Nn e;cases e2;exact⟨BF,BH,F,env,L,ds,S,h2,λJ F1 H1 z1 J1 p hp=>sE S z1 J1 hl h3 hf hp λv F' H' z rr=>q v F' H' z rr⟩
end
inductive XO where
 |ok (o:Out)|ex (c:Nat)
noncomputable abbrev Sx:=Env->Option (XO×Env)
noncomputable abbrev Fx:=W0->Option (D⊕Nat)
noncomputable def Kb(g:St):Sx:=λenv=>match g env with
 |some (o,e)=>some (.ok o,e)
 |none=>none
noncomputable def jb(a b:Sx):Sx:=λenv=>match a env with
 |some (.ok .nx,e)=>b e
 |r=>r
noncomputable def Nc(t:Tx)(a b:Sx):Sx:=λenv=>match t env with
 |some true=>a env
 |some false=>b env
 |none=>none
noncomputable def Lh(c:Nat):Sx:=λenv=>some (.ex c,env)
noncomputable def dg(φ:Fx)(es:List Ex):Env->Option (D⊕Nat):=λenv=>match evs es env with
 |some ds=>φ ds
 |none=>none
noncomputable def Ab(φ:Fx)(es:List Ex):Sx:=λenv=>match dg φ es env with
 |some (.inl _)=>some (.ok .nx,env)
 |some (.inr c)=>some (.ex c,env)
 |none=>none
noncomputable def Zc(p n:Nat)(g:Sx):Fx:=λds=>if ds.length=p then(match g (enter n ds)with
  |some (.ok (.rt d),_)=>some (.inl d)
  |some (.ok .nx,_)=>some (.inl .non)
  |some (.ex c,_)=>some (.inr c)
  |_=>none)else none
noncomputable def Wg(g:Tg)(b:Sx):W0->Sx
 |[],env=>some (.ok .nx,env)
 |d::ds,env=>match g d env with
  |some e0=>match b e0 with
   |some (.ok .nx,e1)=>Wg g b ds e1
   |some (.ok .ct,e1)=>Wg g b ds e1
   |some (.ok .bk,e1)=>some (.ok .nx,e1)
   |some (.ok (.rt r),e1)=>some (.ok (.rt r),e1)
   |some (.ex c,e1)=>some (.ex c,e1)
   |none=>none
  |none=>none
noncomputable def zm(g:Tg)(it:Lx)(b:Sx):Sx:=λenv=>match it env with
 |some ds=>Wg g b ds env
 |none=>none
noncomputable def Rj(cs:List Nat)(i c':Nat):Ex:=λenv=>match env[i]? with
 |some (.xc c)=>if c∈cs then some (.bl (decide (c=c')))else none
 |_=>none
noncomputable def Xz(cs:List Nat)(i:Nat):Ex:=λenv=>match env[i]? with
 |some (.xc c)=>if c∈cs then some (.bl true)else none
 |_=>none
noncomputable def Vs(n:Nat)(g:St)(c:Nat):Option D:=match g (.xc c::List.replicate (n-1) .un)with
 |some (.rt d,_)=>some d
 |_=>none
noncomputable def Ws(g:Sx)(φ:Nat->Option D):St:=λenv=>match g env with
 |some (.ok o,e)=>some (o,e)
 |some (.ex c,e)=>match φ c with
  |some (.str w)=>some (.rt (.str w),e.map λ_=>.un)
  |_=>none
 |none=>none
noncomputable def Yz:D->D->Option D
 |.lst ys,x=>if D.deps ys<=8/\x.dep<=8 then some (.int ((ys.countP λy=>Pb y x:Nat)))else none
 |_,_=>none
section
variable{M:Model}{A:Around}{E:N0}{s:Shared}{B h h':Heap}{env:PySem.Env}{outer l:List PySem.Env}{L e C:Addr}{fl:Value}{n2:Prop}
noncomputable def Tr(n2:Prop)(B h:Heap)(e C:Addr)(fl:Value):Prop:=
 ∃xo ws T to tw,(h.get? e=some xo/\xo.cls=.ref C/\xo.dict=none/\xo.data=.fields ws)/\(ws[1]?=some (.ref T)/\(n2->ws[2]?=some .none))/\B.get? T=none/\T≠e/\h.get? T=some to/\to.data=.fields tw/\tw[3]?=some fl
structure Fl(n2:Prop)(B:Heap)(l:List PySem.Env)(e C:Addr)(fl:Value)(h:Heap):Prop where
 st:B.StaysIn h
 no:B.get? e=none
 ff:h.FunFrames B l
 tr:Tr n2 B h e C fl
theorem Qv(x:h.UpToSlots h')(f:h.FunFrames B l):h'.FunFrames B l:=f.of_keeps λb o q n=>let ⟨sl,z⟩:=x b o q n;⟨_,z,rfl⟩
theorem zR(o:Obj)(g:Array Value->Array Value):(Obj.mapFields g o).dict=o.dict:=by obtain⟨_,_,dt,_⟩:=o;cases dt<;>rfl
theorem Zz{xo:Obj}{ws:Array Value}{hd:Value}{nx:Bool}{Q:Unit->Shared->Prop}(fr:A.frames=some (env::outer))(ff:s.heap.FunFrames B (env::outer))(hf:env.frame=some L)
  (st:B.StaysIn s.heap) (no:B.get? e=none) (xe:s.heap.get? e=some xo) (xc:xo.cls=.ref C) (xd:xo.dict=none) (xw:xo.data=.fields ws) (x1:1<ws.size) (x2:n2->ws[2]?=some .none)
  (k:∀g,Fl n2 B (env::outer) e C (rawInt L) g->s.heap.UpToSlots g->Q () { s with heap:=g }) :
  wpAny M A (do let a <-frameOf env;let pl <-entryPlaceOf L nx;let b <-EntryCells.newEntry hd a .none (rawInt L) .none pl;setField (.ref e) 1 b) Q E s:=by
 have Rv:e∉(env::outer).filterMap (·.frame):=λz=>by obtain⟨-,o,q,n⟩:=ff.mem z;rw[xe]at q;cases q;exact n ws xw
 refine X0 (wpAny_frameOf_fun fr ff hf λg so=>X0 (wpAny_entryPlaceOf λpl ip=>?_));unfold EntryCells.newEntry newFields;refine X0 (E4 ?_ (ip.sizeOk5 _ _ _ _ _));have ge:g.get? e=some xo:=(so.2.1 e Rv).trans xe;have gB:B.StaysIn g:=λb o q=>(so.2.1 b λz=>by rw[(ff.mem z).1]at q;cases q).trans (st b o q);generalize zJ:({ cls:=.type "traceback",dict:=none,data:=.fields ([hd,.ref L,.none,rawInt L,.none]++(if pl.isEmpty then List.replicate 6 Value.none else pl)).toArray }:Obj)=to;have td:to.data=.fields ([hd,.ref L,.none,rawInt L,.none]++(if pl.isEmpty then List.replicate 6 Value.none else pl)).toArray:=by rw[<-zJ]
 have tf:to.isFreed=false:=T5 td;have pe:(g.push to).get? e=some xo:=B1 _ ge;refine a5 pe xw x1 ?_;have Te:g.objs.size≠e:=a6 (N1 ge);have ud:=u5 xw (·.setIfInBounds 1 (Value.ref g.objs.size));have ue:=G4 (Obj.mapFields (·.setIfInBounds 1 (Value.ref g.objs.size))) pe (T5 ud);have uT:((g.push to).update e (Obj.mapFields (·.setIfInBounds 1 (Value.ref g.objs.size)))).get? g.objs.size=some to:=(D2 _ _ (U3 Te)).trans (Z1 g tf);have kp:∀b o,b≠e->g.get? b=some o->((g.push to).update e (Obj.mapFields (·.setIfInBounds 1 (Value.ref g.objs.size)))).get? b=some o:=λb o n q=>
  (D2 _ _ (U3 n)).trans (B1 _ q)
 have up:s.heap.UpToSlots ((g.push to).update e (Obj.mapFields (·.setIfInBounds 1 (Value.ref g.objs.size)))):=λb o q n=>by obtain⟨sl,z⟩:=so.2.2 b o q;exact⟨sl,kp b _ (λy=>by subst y;rw[xe]at q;cases q;exact n ws xw) z⟩
 refine k _ ⟨λb o q=>kp b o (λy=>by rw[y,no]at q;cases q) (gB b o q),no,Qv up ff,?_⟩ up;refine⟨_,_,g.objs.size,to,_,⟨ue,(Zax _ _).trans xc,(zR _ _).trans xd,ud⟩,⟨by simp[x1],λz=>by rw[Array.getElem?_setIfInBounds_ne (by decide)];exact x2 z⟩,gB.fresh,Te,uT,td,?_⟩;simp
theorem land{Q:Unit->Shared->Prop}(f:Fl n2 B l e C fl s.heap)(k:∀g,Fl n2 B l e C .none g->s.heap.UpToSlots g->Q () { s with heap:=g }):wpAny M A (setFlight (.ref e) none) Q E s:=by
 obtain⟨st,no,ff,xo,ws,T,to,tw,⟨xe,xc,xd,xw⟩,⟨w1,w2⟩,nT,Te,tg,td,t3⟩:=f;have Xs:=(Q4.mp t3).1;unfold setFlight;refine X0 (l5 xe xw w1 ?_);rw[Q1 (by simp)];have ot:∀b,b≠T->(s.heap.update T (Obj.mapFields (·.setIfInBounds 3 Value.none))).get? b=s.heap.get? b:=λb n=>D2 _ _ (U3 n);have up:s.heap.UpToSlots (s.heap.update T (Obj.mapFields (·.setIfInBounds 3 Value.none))):=λb o q n=>⟨o.slots,(ot b λy=>by subst y;rw[tg]at q;cases q;exact n tw td).trans q⟩
 refine a5 tg td Xs (k _ ⟨λb o q=>(ot b λy=>by rw[y,nT]at q;cases q).trans (st b o q),no,Qv up ff,?_⟩ up);exact⟨xo,ws,T,_,_,⟨(ot e (U3 Te)).trans xe,xc,xd,xw⟩,⟨w1,w2⟩,nT,Te,G4 _ tg (T5 (u5 td _)),u5 td _,by simp[Xs]⟩
theorem RF{Q:Unit->Shared->Prop}(fr:A.frames=some (env::outer))(hf:env.frame=some L)(Ig:(fl==rawInt L)=false)(f:Fl n2 B (env::outer) e C fl s.heap)(k:∀g,Fl n2 B (env::outer) e C (rawInt L) g->s.heap.UpToSlots g->Q () { s with heap:=g }):wpAny M A (noteFrame (.ref e) env) Q E s:=by
 obtain⟨st,no,ff,xo,ws,T,to,tw,⟨xe,xc,xd,xw⟩,⟨w1,w2⟩,nT,Te,tg,td,t3⟩:=f;unfold noteFrame;simp only[hf];refine X0 (l5 xe xw w1 ?_);rw[Q1 (by simp)];refine X0 (l5 tg td t3 ?_);rw[B2 (by rw[Ig];decide)];have ot:∀b,b≠T->(s.heap.update T (Obj.mapFields (·.setIfInBounds 3 Value.none))).get? b=s.heap.get? b:=λb n=>D2 _ _ (U3 n);have up:s.heap.UpToSlots (s.heap.update T (Obj.mapFields (·.setIfInBounds 3 Value.none))):=λb o q n=>⟨o.slots,(ot b λy=>by subst y;rw[tg]at q;cases q;exact n tw td).trans q⟩
 refine X0 (a5 tg td (Q4.mp t3).1 ?_);exact Zz fr (Qv up ff) hf (λb o q=>(ot b λy=>by rw[y,nT]at q;cases q).trans (st b o q)) no ((ot e (U3 Te)).trans xe) xc xd xw (Q4.mp w1).1 w2 λg f' u=>k g f' (up.trans u)
theorem SF{Q:Unit->Shared->Prop}(hf:env.frame=some L)(f:Fl n2 B (env::outer) e C (rawInt L) s.heap)(k:Q () s):wpAny M A (noteFrame (.ref e) env) Q E s:=by obtain⟨st,no,ff,xo,ws,T,to,tw,⟨xe,xc,xd,xw⟩,⟨w1,w2⟩,nT,Te,tg,td,t3⟩:=f;unfold noteFrame;simp only[hf];refine X0 (l5 xe xw w1 ?_);rw[Q1 (by simp)];refine X0 (l5 tg td t3 ?_);rw[Q1 (by simp[rawInt])];exact G1 k
theorem AR{o:Option Addr}{Q:Unit->Shared->Prop}(f:Fl n2 B l e C fl s.heap)(k:∀g,Fl n2 B l e C (o.elim .none λf=>rawInt f) g->s.heap.UpToSlots g->Q () { s with heap:=g }):wpAny M A (setFlight (.ref e) o) Q E s:=by
 obtain⟨st,no,ff,xo,ws,T,to,tw,⟨xe,xc,xd,xw⟩,⟨w1,w2⟩,nT,Te,tg,td,t3⟩:=f;have Xs:=(Q4.mp t3).1;unfold setFlight;refine X0 (l5 xe xw w1 ?_);rw[Q1 (by simp)];have ot:∀b,b≠T->(s.heap.update T (Obj.mapFields (·.setIfInBounds 3 (o.elim Value.none λf=>rawInt f)))).get? b=s.heap.get? b:=λb n=>D2 _ _ (U3 n);have up:s.heap.UpToSlots (s.heap.update T (Obj.mapFields (·.setIfInBounds 3 (o.elim Value.none λf=>rawInt f)))):=λb o q n=>⟨o.slots,(ot b λy=>by subst y;rw[tg]at q;cases q;exact n tw td).trans q⟩
 refine a5 tg td Xs (k _ ⟨λb o q=>(ot b λy=>by rw[y,nT]at q;cases q).trans (st b o q),no,Qv up ff,?_⟩ up);exact⟨xo,ws,T,_,_,⟨(ot e (U3 Te)).trans xe,xc,xd,xw⟩,⟨w1,w2⟩,nT,Te,G4 _ tg (T5 (u5 td _)),u5 td _,by simp[Xs]⟩
theorem leave_new{xo:Obj}{ws:Array Value}{Q:Unit->Shared->Prop}(fr:A.frames=some (env::outer))(hf:env.frame=some L)(ff:s.heap.FunFrames B (env::outer))(st:B.StaysIn s.heap)(no:B.get? e=none)(xe:s.heap.get? e=some xo)(xc:xo.cls=.ref C)(xd:xo.dict=none)(xw:xo.data=.fields ws)(x1:ws[1]?=some .none)(x2:n2->ws[2]?=some .none)(k:∀g,Fl n2 B outer e C .none g->s.heap.UpToSlots g->Q () { s with heap:=g }):wpAny M A (leaving env (.ref e)) Q E s:=by unfold leaving noteFrame;simp only[hf];refine X0 (X0 (l5 xe xw x1 ?_));rw[B2 (by decide)];refine Zz fr ff hf st no xe xc xd xw (Q4.mp x1).1 x2 λg f u=>land f λg2 f2 u2=>k g2 ⟨f2.st,f2.no,f2.ff.2.2,f2.tr⟩ (u.trans u2)
theorem BR{Q:Unit->Shared->Prop}(fr:A.frames=some (env::outer))(hf:env.frame=some L)(Ig:(fl==rawInt L)=false)(f:Fl n2 B (env::outer) e C fl s.heap)(k:∀g,Fl n2 B outer e C .none g->s.heap.UpToSlots g->Q () { s with heap:=g }):wpAny M A (leaving env (.ref e)) Q E s:=by unfold leaving;exact X0 (RF fr hf Ig f λg f1 u=>land f1 λg2 f2 u2=>k g2 ⟨f2.st,f2.no,f2.ff.2.2,f2.tr⟩ (u.trans u2))
theorem DR{Q:Unit->Shared->Prop}(hf:env.frame=some L)(f:Fl n2 B (env::outer) e C (rawInt L) s.heap)(k:∀g,Fl n2 B outer e C .none g->s.heap.UpToSlots g->Q () { s with heap:=g }):wpAny M A (leaving env (.ref e)) Q E s:=by unfold leaving;exact X0 (SF hf f (land f λg2 f2 u2=>k g2 ⟨f2.st,f2.no,f2.ff.2.2,f2.tr⟩ u2))
end
noncomputable def ER(B:Heap)(fs:R0)(h0:Heap)(H:Hp):Prop:=∀b,b∉fs->((∃o,h0.get? b=some o)\/H b≠none)->∃o,B.get? b=some o
noncomputable def jj(P:Program)(w:World)(K:Frag):L2.rh:=λouter H s E e s'=>∃a C H' B,e=.ref a/\s'.os=s.os/\AllBare s'.gens/\Un (frs outer) [] H H' s.heap s'.heap/\Dd P w H' s'.heap/\
 ER B (frs outer) s.heap H'/\Fl (¬CN K 6 C) B outer a C .none s'.heap/\E (.ref C) none H'
noncomputable def Ys(X:Cx)(pins:M0)(H:Hp)(b:Addr):Prop:=
 ((∃o,X.s₀.heap.get? b=some o)/\b∉X.ex)\/H b≠none\/(∃p∈X.pn++pins,p.1=b)\/∃x,X.env.cells.lookup x=some b
structure Le(X:Cx)(pins:M0)(H:Hp)(s:Shared)(a C:Addr)(B:Heap):Prop where
 st:B.StaysIn s.heap
 no:B.get? a=none
 ff:s.heap.FunFrames B X.stack
 cov:∀b,b∉frs X.stack->Ys X pins H b->∃o,B.get? b=some o
 it:(∃xo ws,(s.heap.get? a=some xo/\xo.cls=.ref C/\xo.dict=none/\xo.data=.fields ws)/\ws[1]?=some .none/\(¬CN X.K 6 C->ws[2]?=some .none))\/∃fl,Tr (¬CN X.K 6 C) B s.heap a C fl
section
variable{P:Program}{w:World}{X:Cx}{pins:M0}{σ:L2.St}{H H':Hp}{s s':Shared}{a C:Addr}{B g h:Heap}
theorem FR{o:HO}(x:de P w H h a o):∃v,h.get? a=some v:=by
 cases o with
 |lst xs=>obtain⟨_,_,_,_,e⟩:=x;exact⟨_,e⟩
 |tup xs=>obtain⟨_,_,_,o,e,_⟩:=x;exact⟨_,e⟩
 |dK kvs=>obtain⟨_,_,_,_,o,_,_,e,_⟩:=x;exact⟨_,e⟩
 |dT kvs=>obtain⟨_,_,_,_,o,_,_,e,_⟩:=x;exact⟨_,e⟩
 |set S n=>obtain⟨o,_,_,_,e,_⟩:=x;exact⟨_,e⟩
 |ins C dx fs=>obtain⟨_,_,_,e,_⟩:=x;exact⟨_,e⟩
 |own y=>obtain⟨_,e⟩:=x;exact⟨_,e⟩
 |xd fs=>obtain⟨_,⟨_,_,_,e,_⟩,_⟩:=x;exact⟨_,e⟩
 |rng lo hi=>obtain⟨_,_,_,e⟩:=x;exact⟨_,e⟩
 |Tc ob u=>obtain⟨e,_⟩:=x;exact⟨_,e⟩
 |Ml ps=>exact⟨_,x⟩
 |met f y=>exact⟨_,x⟩
 |ext φ=>obtain⟨_,⟨_,e⟩,_⟩:=x;exact⟨_,e⟩
theorem TF(I:Inv X pins σ H s)(cov:∀b,b∉frs X.stack->H b≠none->∃o,B.get? b=some o)(st:B.StaysIn s.heap)(sg:B.StaysIn g):Dd X.prog X.w H g:=λb u q=>by
 refine(I.Va b u q).stay (λc v hc z=>?_) (λ_ z=>z) λ_ _ z=>z;have ht:H c≠none:=by
  rcases hc with rfl|hc
  .rw[q];simp
  .rw[hc];simp
 obtain⟨o,ho⟩:=cov c (λm=>ht (I.Nx c m)) ht;have:=st c o ho;rw[z]at this;cases this;exact sg c v ho
theorem aA(hs:X.stack=X.env::X.outer)(hf:X.env.frame=some X.env.locals):frs X.stack=X.env.locals::frs X.outer:=by rw[hs];unfold frs;rw[N5,hf]
theorem leaves{E:XK}(hs:X.stack=X.env::X.outer)(hf:X.env.frame=some X.env.locals)(hex:X.ex=[])(I:Inv X pins σ H s)(x:Le X pins H s a C B)(hE:E (.ref C) none H):wpAny (model X.prog X.w) X.A (leaving X.env (.ref a)) (λ_ s''=>jj X.prog X.w X.K X.outer X.H₀ X.s₀ E (.ref a) s'') (λe' s''=>jj X.prog X.w X.K X.outer X.H₀ X.s₀ E e' s'') s:=by
 have fc:=aA hs hf;have Rh:∀b o,X.s₀.heap.get? b=some o->b≠X.env.locals:=λb o e=>J2 (Y1 (N1 e) I.ok.above);have inB:∀b o,X.s₀.heap.get? b=some o->b∉frs X.outer->∃u,B.get? b=some u:=λb o e n=>x.cov b (λm=>by
  rw[fc]at m;rcases T1.mp m with m|m
  .exact Rh b o e m
  .exact n m) (.inl ⟨⟨o,e⟩,by rw[hex];simp⟩)
 have key:∀g,Fl (¬CN X.K 6 C) B X.outer a C .none g->s.heap.UpToSlots g->jj X.prog X.w X.K X.outer X.H₀ X.s₀ E (.ref a) { s with heap:=g }:=λg f up=>by
  have Zs:∀b o,b∈frs X.outer->s.heap.get? b=some o->∃sl,g.get? b=some { o with slots:=sl }:=λb o m q=>by
   have mm:b∈frs X.stack:=by rw[fc];exact M1 _ m
   obtain⟨-,o',q',n⟩:=x.ff.mem mm;rw[q]at q';cases q';exact up b o q n
  refine⟨a,C,H,B,rfl,I.os,I.bare,⟨λb o e n hb hx=>?_,λb o e n hb hx=>?_,λb o e n hx=>?_,λb o e hx=>?_,I.base.tups,I.base.Tf,I.base.og⟩,TF I (λb n t=>x.cov b n (.inr (.inl t))) x.st f.st,λb n t=>?_,f,hE⟩
  .have q:=I.base.keep b o e n hb (by rw[hex];simp);obtain⟨u,hu⟩:=inB b o e hb;have:=x.st b u hu;rw[q]at this;cases this;exact f.st b o hu
  .obtain⟨sl,q⟩:=I.base.slot b o e n hb (by rw[hex];simp);obtain⟨sl',q'⟩:=Zs b _ hb q;exact⟨sl',q'⟩
  .exact I.base.free b o e n (by rw[hex];simp)
  .obtain⟨o',q⟩:=I.base.there b o e (by rw[hex];simp);by_cases hb:b∈frs X.outer
   .obtain⟨sl',q'⟩:=Zs b _ hb q;exact⟨_,q'⟩
   .obtain⟨u,hu⟩:=inB b o e hb;exact⟨u,f.st b u hu⟩
  .by_cases hb:b=X.env.locals
   .subst hb;rcases t with⟨o,e⟩|t
    .exact absurd rfl (Rh _ o e)
    .exact absurd I.free t
   .refine x.cov b (λm=>?_) (t.elim (λt=>.inl ⟨t,by rw[hex];simp⟩) λt=>.inr (.inl t));rw[fc]at m;rcases T1.mp m with m|m
    .exact hb m
    .exact n m
 have fr:X.A.frames=some (X.env::X.outer):=I.ok.frames.trans (p5 some hs);have ff:=x.ff;rw[hs]at ff;rcases x.it with⟨xo,ws,⟨q1,q2,q3,q4⟩,q5,q6⟩|⟨fl,tr⟩
 .exact leave_new fr hf ff x.st x.no q1 q2 q3 q4 q5 q6 key
 .cases Ig:(fl==rawInt X.env.locals)with
  |false=>exact BR fr hf Ig ⟨x.st,x.no,ff,tr⟩ key
  |true=>rw[t5.mp Ig]at tr;exact DR hf ⟨x.st,x.no,ff,tr⟩ key
theorem Le.GR{E:XK}{e:Value}(I:Inv X pins σ H s)(h:jj X.prog X.w X.K X.stack H s E e s'):∃a C H' B,e=.ref a/\Inv X pins σ H' s'/\Le X pins H' s' a C B/\E (.ref C) none H':=by
 obtain⟨a,C,H',B,rfl,os,bare,un,Va,cov,f,hE⟩:=h;obtain⟨hh,gg,d,t,os'⟩:=s';obtain rfl:os'=s.os:=os;have I':Inv X pins σ H' ⟨hh,gg,d,t,s.os⟩:=I.call (h':=hh) (g':=gg) (d':=d) (t':=t) (ch:=[]) un Va bare (λb z=>absurd z (by simp));refine⟨a,C,H',B,rfl,I',⟨f.st,f.no,f.ff,λb n t=>?_,.inr ⟨_,f.tr⟩⟩,hE⟩;rcases t with⟨⟨o,q⟩,hx⟩|t|⟨p,hp,rfl⟩|⟨x,hx⟩
 .obtain⟨o',q'⟩:=I.base.there b o q hx;exact cov b n (.inl ⟨o',q'⟩)
 .exact cov b n (.inr t)
 .exact cov _ n (.inl ⟨_,(I.pin p hp).1⟩)
 .obtain⟨v,o,ho,_⟩:=I.cell x b hx;exact cov b n (.inl ⟨o,ho⟩)
end
noncomputable def Sv(X:Cx)(pins:M0)(D0:L2.Ends)(m:Mc)(BF BH F:Hp)(Oa:Env):XO->Prop
 |.ok o=>∀F' H' σ' L',lb X.K BF BH F' H' σ' Oa L'->Same F F'->After D0 m BH F' H' σ' o
 |.ex c=>∀F' H' σ' L' s' a C B,lb X.K BF BH F' H' σ' Oa L'->Same F F'->Inv X pins σ' H' s'->Le X pins H' s' a C B->CN X.K c C->X.xe (.ref a) s'
noncomputable def tX(X:Cx)(pins:M0)(m:Mc)(g:Sx)(D0:L2.Ends)(σ:L2.St)(H:Hp):Prop:=
 ∃BF BH F env L o Oa,lb X.K BF BH F H σ env L/\g env=some (o,Oa)/\Sv X pins D0 m BF BH F Oa o
structure PX(X:Cx)(m:Mc)(st:List Stmt)(g:Sx):Prop where
 h:∀pins s σ H D0,Inv X pins σ H s->tX X pins m g D0 σ H->wpAny (model X.prog X.w) X.A (execs st X.env) (SP X pins D0) X.xe s
structure Rn(X:Cx)(m:Mc)(st:Stmt)(g:Sx):Prop where
 h:∀pins s σ H D0,Inv X pins σ H s->tX X pins m g D0 σ H->wpAny (model X.prog X.w) X.A (exec st X.env) (SP X pins D0) X.xe s
theorem PS.qc{X:Cx}{st:Stmt}{t:TS}(h:PS X.qc st t):PS X st t:=λpins s σ H D I hw=>
 K3 (h pins s σ H D (I.wish _) hw) (λ_ _ q=>q.Of) λ_ _ z=>False.elim z
theorem PA.qc{X:Cx}{es:T0}{t:TA}(h:PA X.qc es t):PA X es t:=λpos pins s σ H Q I hw=>
 K3 (h pos pins s σ H Q (I.wish _) hw) (λ_ _ ⟨vs,H',I',r,q⟩=>⟨vs,H',I'.Of,r,q⟩) λ_ _ z=>False.elim z
section
variable{X:Cx}{m:Mc}{st:Stmt}{rest body orelse:List Stmt}{g:St}{ga gb:Sx}{c:Expr}{t:Tx}{pos:Pos}
theorem UF{env Oa:Env}{o:XO}(h:Kb g env=some (o,Oa)):∃o',o=.ok o'/\g env=some (o',Oa):=by
 unfold Kb at h;split at h
 .rename_i o' e h1;cases h;exact⟨o',rfl,h1⟩
 .cases h
theorem Eg(h:Df X.qc m rest g):PX X m rest (Kb g):=⟨λpins s σ H D0 I Ca=>qd Ca λBF BH F env L o Oa S e k=>by obtain⟨o,rfl,e1⟩:=UF e;exact L2.Pe.qc h.h pins s σ H D0 I ⟨BF,BH,F,env,L,o,Oa,S,e1,k⟩⟩
theorem bA(h:Rb X.qc m st g):Rn X m st (Kb g):=⟨λpins s σ H D0 I Ca=>qd Ca λBF BH F env L o Oa S e k=>by obtain⟨o,rfl,e1⟩:=UF e;exact PS.qc h.h pins s σ H D0 I ⟨BF,BH,F,env,L,o,Oa,S,e1,k⟩⟩
theorem Sv.after{pins:M0}{D0:L2.Ends}{BF BH F F1:Hp}{Oa:Env}{o:XO}(k:Sv X pins D0 m BF BH F Oa o)(s:Same F F1):Sv X pins D0 m BF BH F1 Oa o:=by
 cases o with
 |ok o=>exact λF' H' σ' L' S z=>k F' H' σ' L' S (s.trans z)
 |ex c=>exact λF' H' σ' L' s' a C B S z=>k F' H' σ' L' s' a C B S (s.trans z)
theorem vd(h:Rn X m st ga):PX X m [st] ga:=⟨λpins s σ H D0 I q=>by
 refine y6 (L2.Ua (h.h pins s σ H D0 I q) λf s1 q=>?_);cases f with
 |next=>exact Q5 q
 |ret v=>exact q
 |brk=>exact q
 |cont=>exact q⟩
theorem lc(h1:Rn X m st ga)(h2:PX X m rest gb):PX X m (st::rest) (jb ga gb):=⟨λpins s σ H D0 I Ca=>qd Ca λBF BH F env L o Oa S e k=>by
 unfold jb at e;have go:∀(D1:L2.Ends),tX X pins m ga D1 σ H->(∀f s1,SP X pins D1 f s1->match f with|.next=>wpAny (model X.prog X.w) X.A (execs rest X.env) (SP X pins D0) X.xe s1|f=>SP X pins D0 f s1)->
   wpAny (model X.prog X.w) X.A (execs (st::rest) X.env) (SP X pins D0) X.xe s:=λD1 q z=>by
  refine y6 (L2.Ua (h1.h pins s σ H D1 I q) λf s1 q=>?_);have:=z f s1 q;cases f<;>exact this
 split at e
 .rename_i e1 VY;refine go { D0 with nx:=λσ' H'=>∃F' L',lb X.K BF BH F' H' σ' e1 L'/\Same F F' } ⟨BF,BH,F,env,L,_,e1,S,VY,λF' H' σ' L' S' z=>⟨F',L',S',z⟩⟩ λf s1 q=>?_;cases f with
  |next=>obtain⟨σ',H',I',F',L',S',z⟩:=q;exact h2.h pins s1 σ' H' D0 I' ⟨BF,BH,F',e1,L',o,Oa,S',e,k.after z⟩
  |ret v=>exact q
  |brk=>exact q
  |cont=>exact q
 .rename_i r ic;cases hr:ga env with
  |none=>rw[hr]at e;cases e
  |some p=>
   obtain⟨o1,e1⟩:=p;rw[hr]at e;cases e;refine go { D0 with nx:=λ_ _=>False } ⟨BF,BH,F,env,L,o,Oa,S,hr,?_⟩ λf s1 q=>?_
   .cases o with
    |ex c=>exact k
    |ok o=>
     cases o with
     |nx=>exact absurd hr (ic _)
     |bk=>exact k
     |ct=>exact k
     |rt d=>exact k
   .cases f with
    |next=>obtain⟨_,_,_,q⟩:=q;exact q.elim
    |ret v=>exact q
    |brk=>exact q
    |cont=>exact q⟩
theorem me:PX X m [] (Kb Qa):=Eg Dc
theorem oe(hc:Ke X.qc c t)(ha:PX X m body ga)(hb:PX X m orelse gb):Rn X m (.If c body orelse pos) (Nc t ga gb):=⟨λpins s σ H D0 I Ca=>qd Ca λBF BH F env L o Oa S e k=>by
 unfold Nc at e;have go:∀b:Bool,t env=some b->(match b with|true=>ga env|false=>gb env)=some (o,Oa)->wpAny (model X.prog X.w) X.A (exec (.If c body orelse pos) X.env) (SP X pins D0) X.xe s:=λb Kl he=>by
  refine wpAny_If (L2.Ua (L2.PT.qc hc pins s σ H (λb' H1=>b'=b/\∃F1,lb X.K BF BH F1 H1 σ env L/\Same F F1) I ⟨BF,BH,F,env,L,b,S,Kl,λF' H' z=>⟨rfl,F',S.ext z,z.ff⟩⟩) λd s1 q=>?_);obtain⟨H1,I1,rfl,F1,S1,z⟩:=q;cases d with
  |true=>exact ha.h pins s1 σ H1 D0 I1 ⟨BF,BH,F1,env,L,o,Oa,S1,he,k.after z⟩
  |false=>exact hb.h pins s1 σ H1 D0 I1 ⟨BF,BH,F1,env,L,o,Oa,S1,he,k.after z⟩
 split at e
 .rename_i h1;exact go true h1 e
 .rename_i h1;exact go false h1 e
 .cases e⟩
theorem VF{h h1 base:Heap}{fs:R0}(k:∀b o,h.get? b=some o->h1.get? b=some o):∀{l:List PySem.Env},(∀b∈frs l,b∈fs)->h.FunFrames base l->h1.FunFrames (hideAll h fs) l
 |[],_,_=>trivial
 |env::r,hs,⟨h1,⟨L,o,hf,hn,ho,hd⟩,hr⟩=>by
  have hL:L∈frs (env::r):=by unfold frs;rw[N5,hf];exact W1
  refine⟨h1,⟨L,o,hf,hideAll_none _ (hs L hL),k _ _ ho,hd⟩,VF k (λb hb=>hs b ?_) hr⟩;unfold frs at hb |-;rw[N5,hf];exact M1 _ hb
theorem Le.made{pins:M0}{σ:L2.St}{H:Hp}{s:Shared}{a C:Addr}{h1:Heap}{vs:P0}(I:Inv X pins σ H s)(hm:Heap.MadeExcOf s.heap h1 a (.ref C) vs):Inv X pins σ H { s with heap:=h1 }/\Le X pins H { s with heap:=h1 } a C (hideAll s.heap (frs X.stack)):=by
 have here:∀b,Ys X pins H b->∃o,s.heap.get? b=some o:=λb t=>by
  rcases t with⟨⟨o,q⟩,hx⟩|t|⟨p,hp,rfl⟩|⟨x,hx⟩
  .exact I.base.there b o q hx
  .cases q:H b with
   |none=>exact absurd q t
   |some o=>exact FR (I.Va b o q)
  .exact⟨_,(I.pin p hp).1⟩
  .obtain⟨v,o,ho,_⟩:=I.cell x b hx;exact⟨o,ho⟩
 obtain⟨t,h2,h3,h4⟩:=hm.there;refine⟨I.kept (t':=s.toks) hm.keeps,λb o q=>hm.keeps b o (of_hideAll _ q),?_,VF hm.keeps (λ_ z=>z) I.stack,λb n t=>?_,.inl ⟨_,_,⟨h2,rfl,rfl,rfl⟩,rfl,λ_=>rfl⟩⟩
 .cases q:(hideAll s.heap (frs X.stack)).get? a with
  |none=>rfl
  |some o=>have:=of_hideAll _ q;rw[hm.new]at this;cases this
 .obtain⟨o,q⟩:=here b t;exact⟨o,hideAll_get _ q n⟩
structure WF(K:Frag)(c:Nat):Prop where
 ex:∃C,CN K c C/\excIn K C [.type "ValueError",.type "Exception",.type "BaseException",.type "object"] "ValueError.__new__"=true
theorem HR{K:Frag}{h:Heap}{C:Addr}{bmB:P0}{newId:String}(X:K.In h)(q:excIn K C bmB newId=true):∃bm N nm qn bs hd sn sub ab col dd k0 k1 k2 k3 k5 mN,h.get? C=some (excClassObj nm qn C N bs bm hd sn sub ab col dd k0 k1 k2 k3 k5 newId)/\h.Ns N mN/\mN "__init__"=none/\OwnTail h bmB bm:=by
 unfold excIn at q;split at q
 .rename_i dd cd sl ho;split at q
  .rename_i C' bm k0 k1 k2 k3 n k5 hm hs;simp only[Z2,t5,ZaC]at q;obtain⟨⟨⟨⟨⟨rfl,rfl⟩,z1⟩,z2⟩,z3⟩,z4⟩:=q;obtain⟨nm,bs,mro,ns,qn,hd,sn,sub,ab,col,del⟩:=cd;dsimp only at hm z1 z3 z4;subst hm z1;obtain⟨l⟩:=sl;simp only at hs;subst hs;exact⟨bm,ns,nm,qn,bs,hd,sn,sub,ab,col,dd,k0,k1,k2,k3,k5,_,X _ _ ho,.of_isNs (PySem.W.isNs_of_in X z3),PySem.W.nsMap_none_of_in X z3 z4,PySem.W.tail_of_in X z2⟩
  .cases q
 .cases q
theorem al(n:Nat){x msg:Str}{np cp cpos:Pos}{j}(qk:WF X.K n)(hc:X.calm=true)(hx:xName n=x)(hg:X.env.kindOf x=some .globalImplicit:=by kernel_rfl)(Vd:(x==("__debug__":Str))=false:=by kernel_rfl):Rn X m (.Raise (some (.Call (.Name x np) [.Constant (.str msg) j cp] [] cpos)) none pos) (Lh n):=⟨λpins s σ H D0 I Ca=>qd Ca λBF BH F env L o Oa S e k=>by
 cases e;obtain⟨C,hC,hex⟩:=qk.ex;subst hx;obtain⟨bm,N,nm,qn,bs,hd,sn,sub,ab,col,dd,k0,k1,k2,k3,k5,mN,c1,c2,c3,c4⟩:=HR I.mod.sj hex;have hmg:X.mg (xName n)=some (.ref C):=mg_of I.mod.sj I.mod.glob hC;refine wpAny_Raise_call_subT (C:=C) (nm:=nm) (q:=qn) (N:=N) (bs:=bs) (bm:=bm) (hdct:=hd) (sn:=sn) (sub:=sub) (ab:=ab) (col:=col) (dd:=dd) (k0:=k0) (k1:=k1) (k2:=k2) (k3:=k3) (k5:=k5) R8 (mN:=mN)
  (c4.hasType R8.hasBase) (I.ok.hd hc) rfl c3 (Pl I hg hmg ⟨rfl,?_⟩ Vd)
 show wpAny _ _ (evalArgs (.ref C) true ((false,eval (.Constant (.str msg) j cp) X.env)::backTo cpos (starEach [] X.env)) []) _ _ s;refine b8 ?_;have pa:PA X [.Constant (.str msg) j cp] _:=jd Qx Sd rfl;refine L2.Ua (pa cpos pins s σ H (λvs H1=>vs=[.str msg]/\H1=H) I ⟨rfl,rfl⟩) λus s1 q=>?_;obtain⟨vs,H1,I1,r,rfl,rfl⟩:=q;refine⟨rfl,?_,I1.bk _ _ c1,c2.keeps I1.bk,c4.keeps I1.bk,λh' a hm=>?_⟩
 .rw[<-r.length];show 1<=sizeLine;decide
 .obtain⟨I2,x2⟩:=Le.made I1 hm;exact k F _ σ L _ a C _ S (.refl _) I2 x2 hC⟩
end
noncomputable def cA(K:Frag)(m:Mc)(φ:Fx):Sp:=λvs H Q E=>∃F ds,Same F H/\Ba K F ds vs/\
 ((∃d,φ ds=some (.inl d)/\∀v F' H',Ext F H F' H'->m H F' H' d v->Q v H')\/∃c,φ ds=some (.inr c)/\∀C F' H',CN K c C->Ext F H F' H'->E (.ref C) none H')
structure Am(P:Program)(w:World)(K:Frag)(mg:O0)(base:Heap)(k:Nat)(x:Str)(m:Mc)(φ:Fx):Prop where
 ex:∃(fa:Addr) (fd:FuncData) (ps:Q0),mg x=some (.ref fa)/\keepIn K (.ref fa)=true/\Ce P w K mg base (jj P w K) k fa fd ps (cA K m φ)/\L2.Binds K fd ps []
theorem Am.mono{P:Program}{w:World}{K:Frag}{mg:O0}{base:Heap}{j k:Nat}{x:Str}{m:Mc}{φ:Fx}(h:Am P w K mg base j x m φ)(hk:j<=k):Am P w K mg base k x m φ:=by obtain⟨fa,fd,ps,h1,h2,h3,h4⟩:=h.ex;exact⟨⟨fa,fd,ps,h1,h2,h3.mono hk,h4⟩⟩
section
variable{X:Cx}{m m1:Mc}{e:Expr}{es:T0}{fs:List Ex}{x:Str}{p pos pos':Pos}{k:Nat}{φ:Fx}
theorem YF{pins:M0}{σ:L2.St}{H BF BH F:Hp}{s:Shared}{env:Env}{L:Nat->R0}{r:D⊕Nat}{Q:VK}(G:Am X.prog X.w X.K X.mg X.base k x m1 φ)(hr:rc k X.A)(ha:Cg X.qc .k (e::es) fs)(hg:Gl X x)(Vd:(x==("__debug__":Str))=false)(he:starEach (e::es) X.env=(false,eval e X.env)::starEach es X.env)(Xe:(backTo pos (starEach es X.env)).any (·.1)=false)(I:Inv X pins σ H s)(S:lb X.K BF BH F H σ env L)(hφ:dg φ fs env=some r)(ok:∀d,r=.inl d->∀v F' H' H0,Same BH H0->Same H H0->Ext F H F' H'->m1 H0 F' H' d v->Q v H')(ex:∀c,r=.inr c->∀F' H' s' a C B,Ext F H F' H'->Inv X pins σ H' s'->Le X pins H' s' a C B->CN X.K c C->X.xe (.ref a) s'):wpAny (model X.prog X.w) X.A (eval (.Call (.Name x p) (e::es) [] pos) X.env) (EP X pins σ Q) X.xe s:=by
 obtain⟨fa,fd,ps,h1,h2,h3,h4⟩:=G.ex;unfold dg at hφ;split at hφ
 .rename_i ds h5;refine X3 (Pl I hg h1 ?_ Vd);refine callWith_K (h₀:=X.base) I.ok.mod.sj h2 (L2.Ua (PA.qc ha.h pos pins s σ H (λvs H1=>∃F1,Ext F H F1 H1/\Ba X.K F1 ds vs) I ⟨BF,BH,F,env,L,ds,S,h5,λvs F' H' z r=>⟨F',z,r⟩⟩) λus s1 ⟨vs,H1,I1,rv,F1,z,rp⟩=>⟨I1.Jg,?_⟩) he Xe;have sp:cA X.K m1 φ (vs++[]) H1 Q (λcls _ H2=>∃C F2 c,cls=.ref C/\Ext F1 H1 F2 H2/\r=.inr c/\CN X.K c C):=by
   rw[d5];refine⟨F1,ds,z.fh,rp,?_⟩;cases r with
   |inl d=>exact .inl ⟨d,hφ,λv F2 H2 z2 r2=>ok d rfl v F2 H2 H1 (S.s0.trans z.hh) z.hh (z.trans z2) r2⟩
   |inr c=>exact .inr ⟨c,hφ,λC F2 H2 hc z2=>⟨C,F2,c,rfl,z2,rfl,hc⟩⟩
  have r2:Vals (vs++[]) (us++[]):=rv.append .nil;have hl:(us++[]).length=ps.length:=by rw[<-r2.length];exact h3.len _ _ _ _ sp
  refine B6 (Z5 (h3.run X.A X.stack s1 H1 ⟨us,[]⟩ (us++[]) (vs++[]) Q _ hr I1.env0 (h4 s1 us I1.Jg hl) r2 sp) λrr s' hq=>?_);cases rr with
  |error v=>have hq:jj X.prog X.w X.K X.stack H1 s1 (λcls _ H2=>∃C F2 c,cls=.ref C/\Ext F1 H1 F2 H2/\r=.inr c/\CN X.K c C) v s':=hq;obtain⟨a,C,H',B,rfl,I',x',C',F2,c,Ww,z2,hc,Mf⟩:=Le.GR I1 hq;cases Ww;exact ex c hc F2 H' s' a C B (z.trans z2) I' x' Mf
  |ok fl=>
   cases fl with
   |ret u=>exact I1.after hq
   |next=>exact False.elim hq
   |brk=>exact False.elim hq
   |cont=>exact False.elim hq
 .cases hφ
theorem Ic(G:Am X.prog X.w X.K X.mg X.base k x m1 φ)(hr:rc k X.A)(ha:Cg X.qc .k (e::es) fs)(hg:X.env.kindOf x=some .globalImplicit:=by kernel_rfl)(Vd:(x==("__debug__":Str))=false:=by kernel_rfl)(hn:Zb e=true:=by rfl)(Jf:yg es=true:=by rfl)(hs:swapsWith (.Call (.Name x p) (e::es) [] pos) none pos'.line X.env=pure false:=by rfl):Rn X m (.Expr (.Call (.Name x p) (e::es) [] pos) pos') (Ab φ fs):=⟨λpins s σ H D0 I Ca=>qd Ca λBF BH F env L o Oa S e k=>by
 unfold Ab at e;refine wpAny_Expr_any (L2.Ua (Q:=EP X pins σ λv H'=>D0.nx σ H') ?_ λv s1 ⟨x,H1,I1,r1,q1⟩=>⟨σ,H1,I1,q1⟩) I.quiet hs;split at e
 .rename_i d h1;cases e;exact YF G hr ha hg Vd (Pc hn) (Pk Jf) I S h1 (λd' hd v F' H' H0 s0 s1 z r=>k F' H' σ L (S.ext z) z.ff) (λc hc=>by cases hc)
 .rename_i c h1;cases e;exact YF G hr ha hg Vd (Pc hn) (Pk Jf) I S h1 (λd' hd=>by cases hd) (λc' hc F' H' s' a C B z I' x' Mf=>by cases hc;exact k F' H' σ L s' a C B (S.ext z) z.ff I' x' Mf)
 .cases e⟩
end
theorem dA{p n:Nat}{g:Sx}{ds:W0}{r:D⊕Nat}(h:Zc p n g ds=some r):ds.length=p/\((∃d Oa,r=.inl d/\g (enter n ds)=some (.ok (.rt d),Oa))\/(r=.inl .non/\∃Oa,g (enter n ds)=some (.ok .nx,Oa))\/∃c Oa,r=.inr c/\g (enter n ds)=some (.ex c,Oa)):=by
 unfold Zc at h;split at h
 .rename_i hl;split at h
  .rename_i d e1 hg;cases h;exact⟨hl,.inl ⟨d,e1,rfl,hg⟩⟩
  .rename_i e1 hg;cases h;exact⟨hl,.inr (.inl ⟨rfl,e1,hg⟩)⟩
  .rename_i c e1 hg;cases h;exact⟨hl,.inr (.inr ⟨c,e1,rfl,hg⟩)⟩
  .cases h
 .cases h
theorem IR{P:Program}{w:World}{K:Frag}{mg:O0}{base:Heap}{x qual:Str}{st:Stmt}{f:Addr}{fd:FuncData}{N ps:Q0}{k:Nat}{m:Mc}{g:Sx}(F:Si K x qual st f fd)(S:yj N ps (Ac st))(hm:(∀BH F' H',m BH F' H' .non .non)\/∀env Oa,g env≠some (.ok .nx,Oa))(hb:∀(cdv:Value) (A:Around) (outer:List PySem.Env) (s:Shared) (H:Hp) (E:XK),rc k (A.deeper (envOfC qual (Ac st) s.heap.objs.size f cdv))->PX (Kg (jj P w K) P w K mg base N qual (Ac st) f cdv A outer s H E) m (af st) g):Ce P w K mg base (jj P w K) (k+1) f fd ps (cA K m (Zc ps.length N.length g)):=by
 have Xe:ps.length<=N.length:=by have:=p5 List.length S.pre;rw[B4]at this;omega
 obtain⟨oc,od,kV,doc,pm,an,cdv,ct,osl,rfl,lk,Mb⟩:=F.ex;refine L2.zC lk Mb S (λvs H Q E h=>?_) (λA outer s H vs Q E hr h=>?_)
 .obtain⟨F0,ds,h1,h2,h3⟩:=h;rw[<-h2.length];rcases h3 with⟨d,h3,_⟩|⟨c,h3,_⟩
  .exact(dA h3).1
  .exact(dA h3).1
 .obtain⟨F0,ds,h1,h2,h3⟩:=h;refine⟨λD0 σ H=>∀pins,tX _ pins m g D0 σ H,λpins s1 σ H1 D0 I q=>(hb cdv A outer s H E hr).h pins s1 σ H1 D0 I (q pins),λpins=>?_⟩;have fin:∀(r:D⊕Nat),Zc ps.length N.length g ds=some r->(∀d,r=.inl d->∀v F' H',Ext F0 H F' H'->m H F' H' d v->Q v H')->(∀c,r=.inr c->∀C F' H',CN K c C->Ext F0 H F' H'->E (.ref C) none H')->
    tX (Kg (jj P w K) P w K mg base N qual (Ac st) f cdv A outer s H E) pins m g { nx:=λ_ H'=>Q .non H',rt:=Q } (L2.start N vs) H:=λr hr ok ex=>by
   obtain⟨hl,h3⟩:=dA hr;have S0:=WD (N:=N) h1 h2 (by omega);rcases h3 with⟨d,Oa,rfl,hg⟩|⟨rfl,Oa,hg⟩|⟨c,Oa,rfl,hg⟩
   .exact⟨F0,H,F0,_,_,_,Oa,S0,hg,λF' H' σ' L' S' s' v r=>ok d rfl v F' H' S'.Gp r⟩
   .rcases hm with hm|hm
    .exact⟨F0,H,F0,_,_,_,Oa,S0,hg,λF' H' σ' L' S' s'=>ok .non rfl .non F' H' S'.Gp (hm _ _ _)⟩
    .exact absurd hg (hm _ _)
   .exact⟨F0,H,F0,_,_,_,Oa,S0,hg,λF' H' σ' L' s' a C B S' z I' x' hc=>leaves rfl rfl rfl I' x' (ex c rfl C F' H' hc S'.Gp)⟩
  rcases h3 with⟨d,h3,h4⟩|⟨c,h3,h4⟩
  .exact fin _ h3 (λd' hd=>by cases hd;exact h4) (λc hc=>by cases hc)
  .exact fin _ h3 (λd' hd=>by cases hd) (λc' hc=>by cases hc;exact h4)
section
variable{prog:Program}{w:World}{A:Around}{E:N0}{s:Shared}{K:Frag}{a C:Addr}{o:Obj}
theorem ZF{tk:Tok}{Q:Fin->Shared->Prop}(X:K.In s.heap)(I:InstAt s.heap a o C none)(hf:findObj K C none "__class__"=some (.bind (.builtin "getset_descriptor.__get__") (.builtin "object.__class__")))(hm:mroIn K C (.type "object")=some true)(hq:Q (.done (.ret (.ref C))) s):wpAny (model prog w) A (Builtin.«object.__getattribute__» ⟨[.ref a,.str "__class__" tk],[]⟩) Q E s:=by have L0:=I.type (M:=model prog w);have L1:=PySem.W.looks_find (M:=model prog w) X I hf;unfold Builtin.«object.__getattribute__»;refine X0 (G1 ?_);refine X0 (G1 (X0 (L0.at (X0 (L1.at ?_)))));show wpAny _ _ (holding [.builtin "object.__class__"] (call (.builtin "getset_descriptor.__get__") [.builtin "object.__class__",.ref a,.ref C]) >>= ret) _ _ _;exact X0 (Y3 (B6 (PySem.W.class_get (ox:=o) (od:=none) X I hm (G1 hq))))
theorem JR{tk:Tok}{R:Result->Shared->Prop}(X:K.In s.heap)(I:InstAt s.heap a o C none)(hf:findObj K C none "__class__"=some (.bind (.builtin "getset_descriptor.__get__") (.builtin "object.__class__")))(hm:mroIn K C (.type "object")=some true)(hb:mroIn K C (.type "BaseException")=some true)(hq:R (.ok (.ret (.ref C))) s):codeAny (model prog w) A (.call (.builtin "BaseException.__getattribute__") ⟨[.ref a,.str "__class__" tk],[]⟩) R s:=by
 refine Y7 Y9.ga.plain F.entry_bexc_ga ?_;have hk:builtinKind "BaseException.__getattribute__"=some .slot:=by decide +kernel
 have hsplit:splitId "BaseException.__getattribute__"=some ("BaseException","__getattribute__"):=by decide +kernel
 have ha:=F.args_bexc_ga (.ref a) (.str "__class__" tk);have L0:=I.type (M:=model prog w);have L1:=PySem.W.looks_mroIn (M:=model prog w) X hb;simp only[checkBuiltinCall,hk,hsplit];refine X0 ?_;unfold isInstance;refine X0 (L0.at ?_);refine L1.at ?_;rw[B2 (by decide)];unfold argsOk at ha;generalize Manifest.signature? "BaseException.__getattribute__"=sg at ha |-;cases sg with
 |none=>exact G1 (ZF X I hf hm hq)
 |some sig=>dsimp only at ha |-;rw[ha];exact G1 (ZF X I hf hm hq)
theorem KR{Q:Option Value->Shared->Prop}(X:K.In s.heap)(I:InstAt s.heap a o C none)(WY:findIn K (.ref C) "__getattribute__"=some (some (.builtin "BaseException.__getattribute__")))(LR:findIn K (.ref C) "__getattr__"=some none)(hf:findObj K C none "__class__"=some (.bind (.builtin "getset_descriptor.__get__") (.builtin "object.__class__")))(hm:mroIn K C (.type "object")=some true)(hb:mroIn K C (.type "BaseException")=some true)(h:Q (some (.ref C)) { s with toks:=s.toks+1 }):wpAny (model prog w) A (getAttr? (.ref a) "__class__") Q E s:=by
 obtain⟨hh,g,d,t,os⟩:=s;have L0:=I.type (M:=model prog w);have L1:=looks_findIn (M:=model prog w) X WY;have L2:=looks_findIn (M:=model prog w) X LR;unfold getAttr? getAttrBy? getAttrBy;refine X0 (wpAny_mkText (X0 (i7 (Y3 (X0 (L0.at (X0 (L1.at ?_))))))));have AJ:(Value.builtin "BaseException.__getattribute__"==Value.builtin "object.__getattribute__")=false:=by decide +kernel
 dsimp only;rw[AJ,a7,B2 (by decide)];unfold getAttrByItsOwn hookBefore;rw[Q1 (by rfl)];refine X0 (L2.at ?_);refine X0 (i7 (Y3 ?_));unfold callGetattribute boundAndCalled;rw[B2 (by decide),Y9.ga.bind (.ref a)];refine X0 (G1 ?_);refine B6 (JR (s:=⟨hh,g,d,t+1,os⟩) X I hf hm hb ?_);exact PySem.W.handed_on rfl (G1 h)
end
structure bt(K:Frag)(C:Addr):Prop where
 ga:findIn K (.ref C) "__getattribute__"=some (some (.builtin "BaseException.__getattribute__"))
 gx:findIn K (.ref C) "__getattr__"=some none
 mb:mroIn K C (.type "BaseException")=some true
 cl:(clsIn K C).isSome=true
 fi:findIn K (.ref C) "__class__"=some (some (.builtin "object.__class__"))
 sp:PySem.W.specialIn K (.builtin "object.__class__") "__get__"=some (some (.builtin "getset_descriptor.__get__"))
 tk:PySem.W.takesIn K (.builtin "object.__class__")=some true
 mo:mroIn K C (.type "object")=some true
theorem aG{K:Frag}{C:Addr}(h:(clsIn K C).isSome=true):∃c d cd sl,K.lookup C=some ⟨c,d,.cls cd,sl⟩:=by
 unfold clsIn at h;split at h
 .rename_i c d cd sl ho;exact⟨c,d,cd,sl,ho⟩
 .cases h
theorem bG{K:Frag}{a C:Addr}(f:bt K C):PySem.W.KitX K (.ref a) (.ref C) (Xh a C) where
 ty:=λM h _ p=>by obtain⟨o,ws,h1,h2,-⟩:=p;exact h2▸(PySem.W.Looks.ld h1).andThen .now
 it:=λM h X _=>by obtain⟨c,d,cd,sl,ho⟩:=aG f.cl;intro A' Q' E' s' k q;unfold isType loadHead;exact X0 (wpAny_loadPart (k _ _ (X _ _ ho)) (G1 q))
 ne:=λh tp dd its n sl X XY=>by obtain⟨c,d,cd,sl',ho⟩:=aG f.cl;refine v8.mpr λq=>?_;have e:C=tp:=Value.ref.inj (t5.mp q);subst e;have z:=(X _ _ ho).symm.trans XY;cases z
 ca:=λ{prog w A E Q s} X p k=>by
  obtain⟨o,ws,h1,h2,h3,h4⟩:=p;have I:InstAt s.heap a o C none:=⟨h1,h2,by unfold PySem.W.notCls;rw[h4],by rw[h3];trivial⟩
  have hf:findObj K C none "__class__"=some (.bind (.builtin "getset_descriptor.__get__") (.builtin "object.__class__")):=by obtain⟨cd,hc⟩:=l7.mp f.cl;unfold findObj;rw[hc,x8,f.fi,x8];simp[f.sp,f.tk]
  exact KR X I f.ga f.gx hf f.mo f.mb k
structure ft(K:Frag)(cs:List Nat):Prop where
 cls:∀c,c<7->∃C,CN K c C
 inst:∀c∈cs,∀C,CN K c C->bt K C
 one:∀c∈cs,∀C,CN K c C->∀c',c'<7->∀C',CN K c' C'->kitOne K (.ref C) (.ref C')=some (decide (c=c'))
 val:∀c∈cs,∀C,CN K c C->kitOne K (.ref C) (.type "ValueError")=some true
 Tv:∃CF,nsIn K mainGlobals "FolkError"=some (some (.ref CF))/\∀c∈cs,∀C,CN K c C->exmOne K (.ref C) (.ref CF)=some true
section
variable{X:Cx}{m:Md}{pos:Pos}{cs:List Nat}
theorem cG:Ze X (.builtin "isinstance") (λxs H Q=>∃a C v cv b,xs=[.ref a,v]/\(∀u,RelV v u->u=cv)/\H a=some (.ext (Xh a C))/\bt X.K C/\kitOne X.K (.ref C) cv=some b/\Q (.bl b) H):=by
 intro pins s σ H xs us Q I r h;obtain⟨a,C,v,cv,b,rfl,hv,ha,hi,hk,q⟩:=h;obtain⟨u,w,rfl,ru,Vf⟩:=r.two;obtain rfl:u=Value.ref a:=ru;obtain rfl:=hv w Vf;obtain⟨p,-,-⟩:=(show de X.prog X.w H s.heap a (.ext (Xh a C))from I.Va a _ ha)
 exact PySem.W.kia_one (bG hi) I.Jg p hk (λz=>nomatch z) λtk=>⟨.bl b,H,I.tok tk,rfl,q⟩
theorem MR{c:Nat}{C:Addr}{y:Str}(hC:CN X.K c C)(hy:xName c=y)(hg:Gl X y)(hd:(y==("__debug__":Str))=false):PE X (.Name y pos) (L2.tC (.ref C)):=λ_ _ _ H _ I h=>by subst hy;exact Pl I hg (mg_of I.mod.sj I.mod.glob hC) ⟨.ref C,H,I,rfl,h⟩ hd
theorem Sn(i c':Nat){x y:Str}{p p1 p2:Pos}(T:Bt X.mg)(XF:ft X.K cs)(hc:c'<7)(hy:xName c'=y)(hN:X.N[i]?=some x:=by kernel_rfl)(hv:Ee X.env.scope x=true:=by kernel_rfl)(hd:(x==("__debug__":Str))=false:=by kernel_rfl)(Mb:(x==("__classdict__":Str))=false:=by kernel_rfl)(hg:X.env.kindOf "isinstance"=some .globalImplicit:=by kernel_rfl)(Lf:X.env.kindOf y=some .globalImplicit:=by kernel_rfl)(hd2:(y==("__debug__":Str))=false:=by kernel_rfl):PD X m (.Call (.Name "isinstance" p) [.Name x p1,.Name y p2] [] pos) (Rj cs i c'):=by
 obtain⟨C',hC'⟩:=XF.cls c' hc;exact PD.mk<|PE.of (Xq cG hg T.isinstance boot_isinstance (jd (kf hN (Cf hv) hd Mb) (jd (MR hC' hy Lf hd2) Sd (Gd rfl)) (Pc rfl)) (by decide) (by decide) (Pc rfl) rfl) λσ H Q Ca=>Cb Ca λBF BH F env L d S e q=>by
  unfold Rj at e;split at e
  .rename_i c he;split at e
   .rename_i hm;cases e;obtain⟨ov,hσ,a,C,rfl,Mf,hF⟩:=S.sl i _ he;exact⟨_,hσ,a,C,_,_,_,rfl,λu r=>r,S.fh _ _ hF,XF.inst c hm C Mf,XF.one c hm C Mf c' hc C' hC',q _ F H (.refl S.fh) (by simp[Rep])⟩
   .cases e
  .cases e
theorem NR(i:Nat){x:Str}{p p1 p2:Pos}(T:Bt X.mg)(YY:X.mg "ValueError"=none)(XF:ft X.K cs)(hN:X.N[i]?=some x:=by kernel_rfl)(hv:Ee X.env.scope x=true:=by kernel_rfl)(hd:(x==("__debug__":Str))=false:=by kernel_rfl)(Mb:(x==("__classdict__":Str))=false:=by kernel_rfl)(hg:X.env.kindOf "isinstance"=some .globalImplicit:=by kernel_rfl)(Lf:X.env.kindOf "ValueError"=some .globalImplicit:=by kernel_rfl):PD X m (.Call (.Name "isinstance" p) [.Name x p1,.Name "ValueError" p2] [] pos) (Xz cs i):=by
 exact PD.mk<|PE.of (Xq cG hg T.isinstance boot_isinstance (jd (kf hN (Cf hv) hd Mb) (jd (L2.aK (v:=.ty "ValueError") Lf YY (by decide +kernel) rfl (by decide) (by decide)) Sd (Gd rfl)) (Pc rfl)) (by decide) (by decide) (Pc rfl) rfl) λσ H Q Ca=>Cb Ca λBF BH F env L d S e q=>by
  unfold Xz at e;split at e
  .rename_i c he;split at e
   .rename_i hm;cases e;obtain⟨ov,hσ,a,C,rfl,Mf,hF⟩:=S.sl i _ he;exact⟨_,hσ,a,C,_,_,_,rfl,λu r=>r,S.fh _ _ hF,XF.inst c hm C Mf,XF.val c hm C Mf,q _ F H (.refl S.fh) (by simp[Rep])⟩
   .cases e
  .cases e
end
noncomputable abbrev Tn(A:Around):Around:={ A with handled:=none }
noncomputable def eA(P:Program)(w:World)(K:Frag)(mg:O0)(base:Heap)(N:Q0)(qual:Str)(scope:Scope)(f:Addr)(cd:Value)(A:Around)(outer:List PySem.Env)(s:Shared)(H:Hp):Cx:=
 { Kg uf P w K mg base N qual scope f cd A outer s H E0 with calm:=false,xe:=λ_ _=>False }
structure dG(P:Program)(w:World)(K:Frag)(mg:O0)(base:Heap)(k:Nat)(f:Addr)(fd:FuncData)(x:Str)(φ:Nat->Option D):Prop where
 run:∀(A:Around) (outer:List PySem.Env) (s:Shared) (H F:Hp) (args:Args) (a C:Addr) (c:Nat) (d:D) (Q:VK),rc k (Tn A)->Ak P w K mg base A outer s H->BindsTo s fd args [(x,.ref a)]->Same F H->F a=some (.ext (Xh a C))->CN K c C->φ c=some d->
  (∀v F' H',Ext F H F' H'->Rep K F' d v->Q v H')->codeAny (model P w) A (.call (.ref f) args) (L2.CR uf outer P w H s Q E0) s
theorem OR{P:Program}{w:World}{K:Frag}{mg:O0}{base:Heap}{x qual y:Str}{st:Stmt}{f:Addr}{fd:FuncData}{N:Q0}{k:Nat}{g:St}(F:Si K x qual st f fd)(S:yj N [y] (Ac st))(hb:∀(cdv:Value) (A:Around) (outer:List PySem.Env) (s:Shared) (H:Hp),rc k ((Tn A).deeper (envOfC qual (Ac st) s.heap.objs.size f cdv))->Df (eA P w K mg base N qual (Ac st) f cdv A outer s H) (rk K .k) (af st) g):dG P w K mg base (k+1) f fd y (Vs N.length g):=by
 obtain⟨oc,od,kV,doc,pm,an,cdv,ct,osl,rfl,lk,Mb⟩:=F.ex;refine⟨λA outer s H F0 args a C c d Q hr e0 xB fh hF Mf hφ kk=>?_⟩;have KX:K.In s.heap:=e0.mod.sj.keeps λb o e=>(e0.bs b o e).1;have lim:s.heap.NoLimit:=e0.mod.nolimit.keeps λb o e=>(e0.bs b o e).1;have uB:∀z∈[(y,Value.ref a)],(Ac st).names.lookup z.1=some .local\/((Ac st).names.lookup z.1=some .cell/\((cellsFrom (s.heap.objs.size+1) (Ac st).names []).lookup z.1).isSome=true):=λz hz=>by
  simp at hz;subst hz;rcases S.par y (by simp)with q|q
  .exact .inl q
  .exact .inr ⟨q,cellsFrom_some _ _ _ (.inl q)⟩
 refine P9 (show A.depth<recursionLimit from hr.depth) (KX _ _ lk) rfl S.co S.gen rfl (codeRec_of KX Mb) (xB _ _ _ _ ?_);refine P8 S.kind uB λenv he s1 xx=>?_;subst he;refine⟨lim.keeps xx.toInCall.keep,codeAny_func ?_⟩;have e0':Ak P w K mg base (Tn A) outer s H:=⟨e0.frames,e0.mod,e0.bs,e0.ph,e0.qg,e0.Qi,e0.Va,e0.bare⟩
 have rv:Vals [V.ref a] [Value.ref a]:=.cons rfl .nil;have I0:Inv (Kg uf P w K mg base N qual (Ac st) f cdv (Tn A) outer s H E0) [] (L2.start N [.ref a]) H s1:=L2.xC (us:=[Value.ref a]) S rfl e0' rfl rv xx;have I:Inv (eA P w K mg base N qual (Ac st) f cdv A outer s H) [] (L2.start N [.ref a]) H s1:=
  ⟨⟨I0.ok.mod,I0.ok.kind,I0.ok.glob,I0.ok.blt,I0.ok.above,I0.ok.inj,I0.ok.has,I0.ok.cab,λh=>(nomatch (show false=true from h)),Z9 e0.frames,I0.ok.stk,I0.ok.No,I0.ok.bs,I0.ok.ph,I0.ok.Nl,I0.ok.Wm,I0.ok.qg,I0.ok.Qi⟩,I0.os,I0.bare,I0.base,I0.loc,I0.cell,I0.free,I0.Uf,I0.pin,I0.Va,I0.len⟩
 have h1:1<=N.length:=by have:=p5 List.length S.pre;rw[B4]at this;simp at this;omega
 unfold Vs at hφ;split at hφ
 .rename_i d' Oa hg;cases hφ;have S0:lb K F0 H F0 H (L2.start N [.ref a]) (.xc c::List.replicate (N.length-1) .un) (λ_=>[]):={
   s0:=.refl _
   f0:=.refl _
   fh:=fh
   fd:=λa o h=>.inl h
   ow:=λi a h=>by cases h
   dj:=λi j a h=>by cases h
   len:=by unfold L2.start;simp
   sl:=λi sl h=>by
    cases i with
    |zero=>cases h;exact⟨_,rfl,a,C,rfl,Mf,hF⟩
    |succ i=>
     simp only[m6,P5]at h;split at h
     .rename_i Wa;cases h;refine⟨none,?_,trivial⟩;unfold L2.start;simp only[V1,V6,List.cons_append,List.nil_append,m6,P5,W4,K8];rw[Q1 (by simpa using Wa)]
     .cases h }
  refine K3 ((hb cdv A outer s H (hr.deeper _)).h [] s1 (L2.start N [.ref a]) H { nx:=λ_ _=>False,rt:=Q } I ⟨F0,H,F0,_,_,_,Oa,S0,hg,λF' H' σ' L' S' s' v r=>kk v F' H' S'.Gp r⟩) (λfl s' hs=>?_) λe s' hs=>hs.elim;cases fl with
  |ret u=>obtain⟨v,σ',H',J,rv,q⟩:=hs;exact⟨v,H',J.os,J.bare,J.base,J.Va,rv,q⟩
  |next=>obtain⟨_,_,_,q⟩:=hs;exact q.elim
  |brk=>obtain⟨_,_,_,q⟩:=hs;exact q.elim
  |cont=>obtain⟨_,_,_,q⟩:=hs;exact q.elim
 .cases hφ
section
variable{X:Cx}{pins:M0}{σ:L2.St}{H:Hp}{s:Shared}{a C:Addr}{B g:Heap}
theorem Uv(hs:X.stack=X.env::X.outer)(hf:X.env.frame=some X.env.locals)(I:Inv X pins σ H s)(x:Le X pins H s a C B)(sg:B.StaysIn g)(up:s.heap.UpToSlots g):Inv X pins σ H { s with heap:=g }:=by
 have fc:=aA hs hf;have inB:∀b o,s.heap.get? b=some o->b∉frs X.stack->Ys X pins H b->g.get? b=some o:=λb o q n t=>by obtain⟨u,hu⟩:=x.cov b n t;have:=x.st b u hu;rw[q]at this;cases this;exact sg b o hu
 have Zs:∀b o,b∈frs X.stack->s.heap.get? b=some o->∃sl,g.get? b=some { o with slots:=sl }:=λb o m q=>by obtain⟨-,o',q',n⟩:=x.ff.mem m;rw[q]at q';cases q';exact up b o q n
 have any:∀b o,s.heap.get? b=some o->Ys X pins H b->∃sl,g.get? b=some { o with slots:=sl }:=λb o q t=>by
  by_cases m:b∈frs X.stack
  .exact Zs b o m q
  .exact⟨o.slots,inB b o q m t⟩
 have Rh:∀b o,X.s₀.heap.get? b=some o->b≠X.env.locals:=λb o e=>J2 (Y1 (N1 e) I.ok.above);have Zb:∀b,b≠X.env.locals->b∉X.fs->b∉frs X.stack:=λb n1 n2 m=>by
  rw[fc]at m;rcases T1.mp m with m|m
  .exact n1 m
  .exact n2 m
 have cellK:∀y c v,X.env.cells.lookup y=some c->s.heap.IsCell c v->g.IsCell c v:=λy c v e ⟨o,ho,hd⟩=>by obtain⟨sl,q⟩:=any c o ho (.inr (.inr (.inr ⟨y,e⟩)));exact⟨_,q,hd⟩
 refine⟨I.ok,I.os,I.bare,⟨λb o e n hb hx=>?_,λb o e n hb hx=>?_,I.base.free,λb o e hx=>?_,I.base.tups,I.base.Tf,I.base.og⟩,?_,λy c e=>?_,I.free,I.Uf,λp hp=>?_,TF I (λb n t=>x.cov b n (.inr (.inl t))) x.st sg,I.len⟩
 .exact inB b o (I.base.keep b o e n hb hx) (Zb b (Rh b o e) hb) (.inl ⟨⟨o,e⟩,hx⟩)
 .obtain⟨sl,q⟩:=I.base.slot b o e n hb hx;obtain⟨sl',q'⟩:=any b _ q (.inl ⟨⟨o,e⟩,hx⟩);exact⟨sl',q'⟩
 .obtain⟨o',q⟩:=I.base.there b o e hx;obtain⟨sl',q'⟩:=any b _ q (.inl ⟨⟨o,e⟩,hx⟩);exact⟨_,q'⟩
 .obtain⟨mm,⟨oL,es,ep,ho,hd,r⟩,hl⟩:=I.loc;obtain⟨sl,q⟩:=Zs X.env.locals oL (by rw[fc];exact W1) ho;refine⟨mm,⟨_,es,ep,q,hd,r⟩,λi y v e1 e2 e3=>?_⟩;obtain⟨u,ru,l⟩:=hl i y v e1 e2 e3;refine⟨u,ru,?_⟩;rcases l with l|⟨k,c,e,z⟩
  .exact .inl l
  .exact .inr ⟨k,c,e,cellK y c _ e z⟩
 .obtain⟨v,z⟩:=I.cell y c e;exact⟨v,cellK y c v e z⟩
 .obtain⟨e,n,ne,nf,d⟩:=I.pin p hp;exact⟨inB p.1 p.2 e (Zb _ ne nf) (.inr (.inr (.inl ⟨p,hp,rfl⟩))),n,ne,nf,d⟩
theorem eG{fl:Value}{g:Heap}(x:Le X pins H s a C B)(f:Fl (¬CN X.K 6 C) B X.stack a C .none g):Le X pins H { s with heap:=g } a C B:=⟨f.st,f.no,f.ff,x.cov,.inr ⟨_,f.tr⟩⟩
theorem fG{A:Around}{E:N0}{Q:Unit->Shared->Prop}(hs:X.stack=X.env::X.outer)(hf:X.env.frame=some X.env.locals)(fr:A.frames=some X.stack)(x:Le X pins H s a C B)(k:∀g,Fl (¬CN X.K 6 C) B X.stack a C (rawInt X.env.locals) g->s.heap.UpToSlots g->Q () { s with heap:=g }):wpAny (model X.prog X.w) A (noteFrame (.ref a) X.env) Q E s:=by
 have ff:=x.ff;rw[hs]at ff fr k;rcases x.it with⟨xo,ws,⟨q1,q2,q3,q4⟩,q5,q6⟩|⟨fl,tr⟩
 .unfold noteFrame;simp only[hf];refine X0 (l5 q1 q4 q5 ?_);rw[B2 (by decide)];exact Zz fr ff hf x.st x.no q1 q2 q3 q4 (Q4.mp q5).1 q6 k
 .cases Ig:(fl==rawInt X.env.locals)with
  |false=>exact RF fr hf Ig ⟨x.st,x.no,ff,tr⟩ k
  |true=>rw[t5.mp Ig]at tr;exact SF hf ⟨x.st,x.no,ff,tr⟩ (k s.heap ⟨x.st,x.no,ff,tr⟩ (λb o q n=>⟨o.slots,q⟩))
theorem PR(hs:X.stack=X.env::X.outer)(hf:X.env.frame=some X.env.locals)(I:Inv X pins σ H s)(x:Le X pins H s a C B)(hp:Xh a C s.heap):H a=none/\Inv X pins σ (upd H a (.ext (Xh a C))) s:=by
 obtain⟨o,ws,h1,h2,h3,h4⟩:=id hp;have Rv:a∉frs X.stack:=λm=>by obtain⟨-,o',q,n⟩:=x.ff.mem m;rw[h1]at q;cases q;exact n ws h4
 have nn:∀b,Ys X pins H b->b≠a:=λb t e=>by subst e;obtain⟨u,hu⟩:=x.cov b Rv t;rw[x.no]at hu;cases hu
 have ha:H a=none:=by
  cases q:H a with
  |none=>rfl
  |some u=>exact absurd rfl (nn a (.inr (.inl (by rw[q];simp))))
 have Rh:X.env.locals≠a:=λe=>Rv (by rw[aA hs hf,e];exact W1);have keep:∀b u,H b=some u->upd H a (.ext (Xh a C)) b=some u:=λb u q=>by rw[rb (Vc q ha)];exact q
 refine⟨ha,I.ok,I.os,I.bare,⟨I.base.keep,I.base.slot,λb o e n hx=>?_,I.base.there,λb xs q=>keep _ _ (I.base.tups b xs q),λb o u q=>keep _ _ (I.base.Tf b o u q),λb ps q=>?_⟩,I.loc,I.cell,?_,λy c e=>?_,λp Be=>?_,λb u q=>?_,I.len⟩
 .rw[rb (nn b (.inl ⟨⟨o,e⟩,hx⟩))];exact I.base.free b o e n hx
 .obtain⟨more,z⟩:=I.base.og b ps q;exact⟨more,keep _ _ z⟩
 .rw[rb Rh];exact I.free
 .rw[rb (nn c (.inr (.inr (.inr ⟨y,e⟩))))];exact I.Uf y c e
 .obtain⟨e,n,ne,nf,d⟩:=I.pin p Be;refine⟨e,?_,ne,nf,d⟩;rw[rb (nn _ (.inr (.inr (.inl ⟨p,Be,rfl⟩))))];exact n
 .by_cases hb:b=a
  .subst hb;rw[Lb]at q;cases q;refine⟨hp,⟨o,h1⟩,λg1 g2 p k=>?_⟩;obtain⟨o',ws',z1,z2,z3,z4⟩:=p;exact⟨o',ws',k _ z1,z2,z3,z4⟩
  .rw[rb hb]at q;exact(I.Va b u q).stay (λ_ _ _ z=>z) (λc z=>keep _ _ z) λc xs z=>keep _ _ z
end
theorem gG{n2:Prop}{B h:Heap}{a C:Addr}{fl:Value}(t:Tr n2 B h a C fl):Xh a C h:=by obtain⟨xo,ws,T,to,tw,⟨q1,q2,q3,q4⟩,-⟩:=t;exact⟨xo,ws,q1,q2,q3,q4⟩
theorem QR{X:Cx}{pins:M0}{σ:L2.St}{H:Hp}{s:Shared}{h':Heap}{t:Nat}{mm:O0}(I:Inv X pins σ H s)(hn:h'.Ns X.env.locals mm)(sb:Heap.SameBut X.env.locals s.heap h'):Inv X pins (σ.map λ_=>none) H { s with heap:=h',toks:=t }:=by
 have Rh:∀b o,X.s₀.heap.get? b=some o->b≠X.env.locals:=λb o e=>J2 (Y1 (N1 e) I.ok.above);refine⟨I.ok,I.os,I.bare,⟨λb o e n hb hx=>(sb.2 b (Rh b o e)).trans (I.base.keep b o e n hb hx),λb o e n hb hx=>?_,I.base.free,λb o e hx=>?_,I.base.tups,I.base.Tf,I.base.og⟩,⟨mm,hn,λi y v e1 e2 e3=>?_⟩,λy c e=>?_,I.free,I.Uf,λp hp=>?_,λb u e=>?_,by rw[Y0];exact I.len⟩
 .obtain⟨sl,q⟩:=I.base.slot b o e n hb hx;exact⟨sl,(sb.2 b (Rh b o e)).trans q⟩
 .obtain⟨o',q⟩:=I.base.there b o e hx;exact⟨o',(sb.2 b (Rh b o e)).trans q⟩
 .rw[i3]at e2;cases q:σ[i]? with
  |none=>rw[q]at e2;cases e2
  |some z=>rw[q]at e2;cases e2
 .obtain⟨v,o,ho,hd⟩:=I.cell y c e;exact⟨v,o,(sb.2 c (I.Ol y c e)).trans ho,hd⟩
 .obtain⟨e,n,ne,nf,d⟩:=I.pin p hp;exact⟨(sb.2 p.1 ne).trans e,n,ne,nf,d⟩
 .refine(I.Va b u e).stay (λc v hc q=>(sb.2 c ?_).trans q) (λ_ q=>q) λ_ _ q=>q;rintro rfl;rcases hc with rfl|hc
  .rw[I.free]at e;cases e
  .rw[I.free]at hc;cases hc
noncomputable def il(X:Cx)(a:Addr):Cx:={ X with A:=X.A.mark (some (.ref a)),calm:=false,xe:=λ_ _=>False }
theorem iG{X:Cx}{pins:M0}{σ:L2.St}{H:Hp}{s:Shared}(a:Addr)(I:Inv X pins σ H s):Inv (il X a) pins σ H s:=
 ⟨⟨I.ok.mod,I.ok.kind,I.ok.glob,I.ok.blt,I.ok.above,I.ok.inj,I.ok.has,I.ok.cab,λh=>(nomatch (show false=true from h)),I.ok.frames,I.ok.stk,I.ok.No,I.ok.bs,I.ok.ph,I.ok.Nl,I.ok.Wm,I.ok.qg,I.ok.Qi⟩,I.os,I.bare,I.base,I.loc,I.cell,I.free,I.Uf,I.pin,I.Va,I.len⟩
theorem SR{X:Cx}{pins:M0}{σ:L2.St}{H:Hp}{s:Shared}{a:Addr}(hd:X.calm=true->X.A.handled=none)(I:Inv (il X a) pins σ H s):Inv X pins σ H s:=
 ⟨⟨I.ok.mod,I.ok.kind,I.ok.glob,I.ok.blt,I.ok.above,I.ok.inj,I.ok.has,I.ok.cab,hd,I.ok.frames,I.ok.stk,I.ok.No,I.ok.bs,I.ok.ph,I.ok.Nl,I.ok.Wm,I.ok.qg,I.ok.Qi⟩,I.os,I.bare,I.base,I.loc,I.cell,I.free,I.Uf,I.pin,I.Va,I.len⟩
structure cq(P:Program)(w:World)(K:Frag)(mg:O0)(base:Heap)(k:Nat)(x:Str)(φ:Nat->Option D):Prop where
 ex:∃(fa:Addr) (fd:FuncData) (y:Str),mg x=some (.ref fa)/\keepIn K (.ref fa)=true/\dG P w K mg base k fa fd y φ/\L2.Binds K fd [y] []
theorem cq.mono{P:Program}{w:World}{K:Frag}{mg:O0}{base:Heap}{j k:Nat}{x:Str}{φ:Nat->Option D}(h:cq P w K mg base j x φ)(hk:j<=k):cq P w K mg base k x φ:=by obtain⟨fa,fd,y,h1,h2,h3,h4⟩:=h.ex;exact⟨⟨fa,fd,y,h1,h2,⟨λA outer s H F args a C c d Q hr=>h3.run A outer s H F args a C c d Q (hr.mono hk)⟩,h4⟩⟩
section
variable{X:Cx}{m:Mc}{pos fu tp p1 p2 p3 p4:Pos}{body:List Stmt}{g:Sx}{φ:Nat->Option D}{cs:List Nat}{k:Nat}{n wn:Str}
theorem TR(i:Nat)(hs:X.stack=X.env::X.outer)(hf:X.env.frame=some X.env.locals)(nd:X.N.Nodup)(XF:ft X.K cs)(Xw:∀c d,φ c=some d->c∈cs)(hm:∀BH F' H' w v,Rep X.K F' (.str w) v->m BH F' H' (.str w) v)(G:cq X.prog X.w X.K X.mg X.base k wn φ)(hr:rc k X.A)(hb:∀E,PX (X.wish E) m body g)(hN:X.N[i]?=some n:=by kernel_rfl)(hl:zg X.env.scope n=true:=by kernel_rfl)(hk:X.env.kindOf n=some .local:=by kernel_rfl)(li:Bg X n=true:=by kernel_rfl)(hv:Ee X.env.scope n=true:=by kernel_rfl)(hd:(n==("__debug__":Str))=false:=by kernel_rfl)(Mb:(n==("__classdict__":Str))=false:=by kernel_rfl)(ZY:X.env.kindOf "FolkError"=some .globalImplicit:=by kernel_rfl)(Lf:X.env.kindOf wn=some .globalImplicit:=by kernel_rfl)(aZ:(wn==("__debug__":Str))=false:=by kernel_rfl):Rb X m (.Try body [.ExceptHandler (some (.Name "FolkError" tp)) (some n) [.Return (some (.Call (.Name wn p1) [.Name n p2] [] p3)) p4] fu] [] [] pos) (Ws g φ):=Rb.mk λpins s σ H D0 I Ca=>qd Ca λBF BH F env L o Oa S e kk=>by
 obtain⟨CF,UR,VR⟩:=XF.Tv;obtain⟨fa,fd,y,WR,bZ,FW,cZ⟩:=G.ex;have XR:∀{s1:Shared} {f:Flow},SP X pins D0 f s1->(match f with|.next=>wpAny (model X.prog X.w) X.A (execs [] X.env) (SP X pins D0) X.xe s1|f=>SP X pins D0 f s1):=λ{s1 f} q=>by
  cases f with
  |next=>exact Q5 q
  |ret v=>exact q
  |brk=>exact q
  |cont=>exact q
 refine wpAny_Try_except (K3 ((hb λe s1=>wpAny (model X.prog X.w) X.A (noteFrame e X.env) (λ_ s2=>wpAny (model X.prog X.w) X.A (setFlight e none) (λ_ s3=>wpAny (model X.prog X.w) X.A (handleBy e X.env [.ExceptHandler (some (.Name "FolkError" tp)) (some n) [.Return (some (.Call (.Name wn p1) [.Name n p2] [] p3)) p4] fu]) (SP X pins D0) X.xe s3) X.xe s2) X.xe s1).h pins s σ H D0 (I.wish _) ?_) (λf s1 q=>XR q.Of) λe s1 q=>q);unfold Ws at e;split at e
 .rename_i o1 e1 hg;cases e;exact⟨BF,BH,F,env,L,.ok o,Oa,S,hg,kk⟩
 .rename_i c e1 hg;split at e
  .rename_i w hφ;cases e;refine⟨BF,BH,F,env,L,.ex c,e1,S,hg,λF1 H1 σ1 L1 s1 a C B S1 z1 I1 x1 Mf=>?_⟩;have Co:=Xw c _ hφ;have I1:Inv X pins σ1 H1 s1:=I1.Of;have x1:Le X pins H1 s1 a C B:=⟨x1.st,x1.no,x1.ff,x1.cov,x1.it⟩
   have dZ:=I1.ok.hd;show wpAny _ _ (noteFrame (.ref a) X.env) _ _ s1;refine fG hs hf I1.ok.frames x1 λg2 f2 u2=>?_;refine land (s:={ s1 with heap:=g2 }) f2 λg3 f3 u3=>?_;have YR:=u2.trans u3;have I3:Inv X pins σ1 H1 { s1 with heap:=g3 }:=Uv hs hf I1 x1 f3.st YR;have x3:Le X pins H1 { s1 with heap:=g3 } a C B:=eG (fl:=.none) x1 f3;have J3:=iG a I3;refine wpAny_handleBy_cons (codeAny_handlers_test ?_) (by intro q;cases q);refine Pl (X:=il X a) J3 ZY (mg_of I3.mod.sj I3.mod.glob UR) ?_ (by decide);have LT:=(bG (XF.inst c Co C Mf)).ty (model X.prog X.w) g3 I3.Jg (gG f3.tr);refine PySem.W.exm_one I3.Jg LT (VR c Co C Mf) _ _ _ _ (λ_ _ q=>q) ?_;refine codeAny_handlers_suite_as ?_;refine land (s:={ s1 with heap:=g3 }) f3 λg4 f4 u4=>?_;have I4:Inv X pins σ1 H1 { s1 with heap:=g4 }:=Uv (s:={ s1 with heap:=g3 }) hs hf I3 x3 f4.st u4;have x4:Le X pins H1 { s1 with heap:=g4 } a C B:=eG (s:={ s1 with heap:=g3 }) (fl:=.none) x3 f4;obtain⟨ha,dz⟩:=PR hs hf I4 x4 (gG f4.tr);have J4:=iG a dz;refine nu (X:=il X a) (v:=.ref a) J4 nd hN (Bh hl) rfl (λs5 J5=>?_) (Dh li);have hi:i<σ1.length:=by rw[I1.len];exact(P1.mp hN).1
   refine y6 (Zas ?_);refine X3 (Pl (X:=il X a) J5 Lf WR ?_ aZ);have pa:PA (il X a) [.Name n p2] _:=jd (kf hN (Cf hv) hd Mb) Sd rfl;refine callWith_K (h₀:=X.base) J5.ok.mod.sj bZ (K3 (pa p3 pins s5 _ _ (λvs H6=>vs=[.ref a]/\H6=upd H1 a (.ext (Xh a C))) J5 ⟨.ref a,W2 hi,rfl,rfl⟩) (λus s6 q=>?_) λ_ _ q=>q.elim) rfl rfl;obtain⟨vs,H6,J6,rv,rfl,rfl⟩:=q;refine⟨J6.Jg,?_⟩;obtain⟨u,us',rfl⟩:∃u us',us=u::us':=by
    cases us with
    |nil=>cases rv
    |cons u us'=>exact⟨u,us',rfl⟩
   cases rv with
   |cons r1 r2=>
    cases r2;obtain rfl:u=Value.ref a:=r1;have z0:Ext F1 H1 (upd F1 a (.ext (Xh a C))) (upd H1 a (.ext (Xh a C))):=Ext.laid S1.fh ha;have room:rc k (Tn (il X a).A):=⟨rfl,hr.dp,hr.un⟩
    have key:=FW.run (il X a).A (il X a).stack s6 _ (upd F1 a (.ext (Xh a C))) ⟨[.ref a],[]⟩ a C c (.str w) (λv H7=>∃F7,Ext F1 H1 F7 H7/\Rep X.K F7 (.str w) v) room J6.env0 (cZ s6 [.ref a] J6.Jg rfl) z0.fh Lb Mf hφ λv F' H' z r=>⟨F',z0.trans z,r⟩
    refine B6 (Z5 key λrr s7 hq=>?_);cases rr with
    |error v=>exact(show False from hq).elim
    |ok fl=>
     cases fl with
     |next=>exact False.elim hq
     |brk=>exact False.elim hq
     |cont=>exact False.elim hq
     |ret u=>
      obtain⟨v,H7,J7,r7,F7,z7,rep⟩:=J6.after hq;obtain⟨mm,Jf,-⟩:=J7.loc;have qk:(X.env.scope.kind==.class||(X.env.scope.kind==.module&&X.env.locals != X.env.globals))=false:=by rw[I.ok.kind];rfl
      refine wpAny_nameGoes hk Jf qk λh8 m8 n8 sb=>?_;have I8:Inv X pins _ H7 _:=QR (t:=s7.toks+1) (SR dZ J7) n8 sb;have S7:=S1.ext z7;refine⟨v,_,H7,I8,r7,kk F7 H7 ((σ1.set i (some (.ref a))).map λ_=>none) L1 ⟨S7.s0,S7.f0,S7.fh,S7.fd,S7.ow,S7.dj,?_,λj sl hj=>?_⟩ (z1.trans z7.ff) v (hm _ _ _ _ _ rep)⟩
      .rw[Y0,Y0,P2];exact S1.len
      .rw[i3]at hj;cases q:e1[j]? with
       |none=>rw[q]at hj;cases hj
       |some z=>
        rw[q]at hj;cases hj;have Wa:j<σ1.length:=by rw[S1.len];exact(P1.mp q).1
        refine⟨none,?_,trivial⟩;rw[i3,E1 (by rw[P2];exact Wa)];rfl
  .cases e
 .cases e
end
section
variable{X:Cx}{m m1 m2:Md}{a b:Expr}{f g:Ex}{p2 p3:Pos}
theorem jG{s:Shared}{dx:D}:∀{ys:W0} {its:P0},Qb s ys its->its.countP (Zh s dx)=ys.countP λy=>Pb y dx
 |[],its,h=>by simp only[Qb]at h;subst h;rfl
 |y::ys,its,h=>by simp only[Qb]at h;obtain⟨u,r,rfl,h1,h2⟩:=h;rw[List.countP_cons,List.countP_cons,jG h2,Lr h1]
theorem ZR(hu:X.A.units+64<cLine):Rl X "list.count" (λx xs H Q=>∃(dx:D) (y:V) (ys:W0),xs=[y]/\Rep X.K H (.lst ys) x/\Rep X.K H dx y/\(D.deps ys<=8/\dx.dep<=8)/\Q (.int ((ys.countP λy=>Pb y dx:Nat))) H):=by
 intro pins s σ H x xs v us Q I rx rv h;obtain⟨dx,y,ys,rfl,h1,h2,hd,q⟩:=h;obtain⟨u,rfl,ru⟩:=rv.one;have hx:=Yh I _ _ _ (by omega) h2 ru;have hy:=Yh I _ _ _ (by simp only[D.dep];omega) h1 rx;simp only[Hr]at hy;obtain⟨p,its,rfl,hl,hr⟩:=hy;have Kq:X.A.in1.units+D.deps ys<cLine:=by show X.A.units+1+_<_;omega
 obtain⟨⟨cls,dd,data,sl⟩,ho,hc,n,Wt⟩:=id hl;simp only at hc Wt;subst hc Wt;refine N7 k9 ⟨_,ho,rfl⟩ PySem.F.entry_list_count (PySem.F.args_list_count_2 _ _)
  (SeqAt.list_countAt p its.toArray n dd sl u (Zh s dx)) ⟨ho,λy hy=>Mr hx Kq hr y (by simpa using hy),?_⟩
 refine⟨.int ((ys.countP λy=>Pb y dx:Nat)),H,I.tok _,⟨s.toks,?_⟩,q⟩;rw[show(its.toArray.toList)=its from rfl,jG hr]
theorem aS(hu:X.A.units+64<cLine)(ha:PD X m1 a f)(hb:PD X m2 b g)(Sc:Zb b=true:=by rfl)(gf:attributeBase a "count" X.env (eval a X.env)=eval a X.env:=by rfl)(jf:(p2.endLine==p3.line)=true:=by rfl):PD X m (.Call (.Attribute a "count" p2) [b] [] p3) (De Yz f g):=
 PD.mk<|PE.of (Ek m4 k9 PySem.F.type_list_count (ZR hu) ha.r.h (jd hb.r.h Sd (Gd Sc)) gf (by rw[Kj (Lj Sc)];rfl) jf (Pc Sc) rfl) λσ H Q Ca=>Cb Ca λBF BH F env L d S e q=>by
  unfold De at e;split at e
  .rename_i x y h1 h2;unfold Yz at e;split at e
   .rename_i ys;split at e
    .rename_i hd;cases e;refine⟨BF,BH,F,env,L,_,S,h1,λv F1 H1 z1 r1=>⟨?_,BF,BH,F1,env,L,y,S.ext z1,h2,λw F2 H2 z2 r2=>⟨y,w,ys,rfl,Rep.mono z2.hh _ _ r1,r2,hd,q _ F2 H2 (z1.trans z2) (by simp[Rep])⟩⟩⟩;have r1':=r1;simp only[Rep,ye]at r1';obtain⟨p,vs,rfl,hs,_⟩:=r1';exact .inl ⟨rfl,vs,hs⟩
    .cases e
   .cases e
  .cases e
end
theorem gt{K:Frag}{c:Nat}{C C':Addr}(h:CN K c C)(h':CN K c C'):C=C':=by unfold CN at h h';rw[h]at h';cases h';rfl
theorem bS{K:Frag}{Cs:Nat->Addr}{CF:Addr}{cs:List Nat}(n:∀c,c<7->CN K c (Cs c))(nF:nsIn K mainGlobals "FolkError"=some (some (.ref CF)))(Wa:∀c∈cs,c<7)(inst:∀c∈cs,bt K (Cs c))(one:∀c∈cs,∀c',c'<7->kitOne K (.ref (Cs c)) (.ref (Cs c'))=some (decide (c=c')))(val:∀c∈cs,kitOne K (.ref (Cs c)) (.type "ValueError")=some true)(Tv:∀c∈cs,exmOne K (.ref (Cs c)) (.ref CF)=some true):ft K cs where
 cls:=λc h=>⟨_,n c h⟩
 inst:=λc h C hC=>gt (n c (Wa c h)) hC▸inst c h
 one:=λc h C hC c' h' C' hC'=>gt (n c (Wa c h)) hC▸gt (n c' h') hC'▸one c h c' h'
 val:=λc h C hC=>gt (n c (Wa c h)) hC▸val c h
 Tv:=⟨CF,nF,λc h C hC=>gt (n c (Wa c h)) hC▸Tv c h⟩
theorem cS{K:Frag}:∀BH F' H' (w:Str) v,Rep K F' (.str w) v->rk K .k BH F' H' (.str w) v:=λ_ _ _ _ _ h=>h
noncomputable def XE(X:Cx)(pins:M0)(G:L2.St->Hp->Addr->Prop)(e:Value)(s:Shared):Prop:=∃a C B σ H,e=.ref a/\Inv X pins σ H s/\Le X pins H s a C B/\G σ H C
section
variable{X:Cx}{pins:M0}
theorem passes{G:L2.St->Hp->Addr->Prop}(hs:X.stack=X.env::X.outer)(hf:X.env.frame=some X.env.locals):PassesOwn (model X.prog X.w) X.A X.env (XE X pins G):=by
 rintro e s ⟨a,C,B,σ,H,rfl,I,x,q⟩;unfold notedBy;refine fG hs hf I.ok.frames x λg f u=>?_;have I1:Inv X pins σ H { s with heap:=g }:=Uv hs hf I x f.st u;have x1:Le X pins H { s with heap:=g } a C B:=⟨f.st,f.no,f.ff,x.cov,.inr ⟨_,f.tr⟩⟩
 obtain⟨xo,ws,T,to,tw,⟨y1,y2,y3,y4⟩,⟨w1,_⟩,rest⟩:=id f.tr;unfold cameBackBy;refine X0 (l5 (s:={ s with heap:=g }) y1 y4 w1 ?_);rw[B2 (by simp),hf];refine AR (o:=some X.env.locals) (s:={ s with heap:=g }) f λg2 f2 u2=>?_;exact⟨a,C,B,σ,H,rfl,Uv (s:={ s with heap:=g }) hs hf I1 x1 f2.st u2,⟨f2.st,f2.no,f2.ff,x.cov,.inr ⟨_,f2.tr⟩⟩,q⟩
theorem Le.fewer{H:Hp}{s:Shared}{a C:Addr}{B:Heap}{more:M0}(x:Le X (pins++more) H s a C B):Le X pins H s a C B:=
 ⟨x.st,x.no,x.ff,λb n t=>x.cov b n (by
  rcases t with t|t|⟨p,hp,e⟩|t
  .exact .inl t
  .exact .inr (.inl t)
  .refine .inr (.inr (.inl ⟨p,?_,e⟩));rw[<-w6];exact Y2 _ hp
  .exact .inr (.inr (.inr t))),x.it⟩
variable{m:Mc}{tg iter:Expr}{lx:Lx}{g:Tg}{body:List Stmt}{b:Sx}{pos:Pos}
theorem kG(hs:X.stack=X.env::X.outer)(hf:X.env.frame=some X.env.locals)(hi:PId X.qc tg iter lx)(hg:sv X.qc tg g)(hb:∀E,PX (X.wish E) m body b)(hc:X.calm=true:=by rfl)(eZ:∀x,foldedSetIterable iter X.env x=pure x:=by intro _;rfl):Rn X m (.For tg iter body [] pos) (zm g lx b):=⟨λpins s σ H D0 I Ca=>qd Ca λBF BH F env L o Oa S e k=>by
 unfold zm at e;split at e
 .rename_i ds h1;let G:L2.St->Hp->Addr->Prop:=λσ' H' C=>∃c F' L',o=.ex c/\lb X.K BF BH F' H' σ' Oa L'/\Same F F'/\CN X.K c C;have hp:PassesOwn (model X.prog X.w) X.A X.env (XE X pins G):=passes hs hf;have fin:∀e' s',XE X pins G e' s'->X.xe e' s':=λe' s' ⟨a,C,B,σ',H',q0,I',x',c,F',L',q1,S',z,Mf⟩=>by
   subst q0 q1;exact k F' H' σ' L' s' a C B S' z I' x' Mf
  refine K3 (Q:=SP X pins D0) (E:=XE X pins G) ?_ (λ_ _ q=>q) fin;have lift:∀{α:Type} {t:Sem α} {Q:α->Shared->Prop} {s1:Shared},wpAny (model X.prog X.w) X.A t Q (λ_ _=>False) s1->wpAny (model X.prog X.w) X.A t Q (XE X pins G) s1:=λh=>K3 h (λ_ _ q=>q) λ_ _ z=>z.elim;refine wpAny_For (L2.Ua (lift (hi pins s σ H (λJ H1=>∃F1,Ext F H F1 H1/\Vr X.K J F1 ds) (I.wish _) ⟨BF,BH,F,env,L,ds,S,h1,λJ F1 H1 z J1=>⟨F1,z,J1⟩⟩)) λv s1 q1=>L2.Ua (lift q1) λitv s2 q2=>?_) eZ;obtain⟨it,fp,tn,J,H2,ee,I2,T,st2,f2,F1,z1,J1⟩:=q2;subst ee;have I2:Inv X pins σ H2 s2:=I2.Of;have stat:∀{H':Hp},(∀b∈fp,H' b=none)->∀b∈fp,qh X pins H' b:=λhn b hb=>⟨hn b hb,(f2 b hb).2⟩
  refine Zaa (λn s'=>∃i σ' H',Inv X pins σ' H' s'/\tn i s'.heap/\(∀b∈fp,H' b=none)/\n=ds.length-i/\i<=ds.length/\∃F env L,lb X.K BF BH F H' σ' env L/\Same F1 F/\Wg g b (ds.drop i) env=some (o,Oa)) ?_ ds.length
   ⟨0,σ,H2,I2,st2,λb hb=>(f2 b hb).1,by simp,V3 _,F1,env,L,S.ext z1,.refl _,e⟩
  rintro n s3 ⟨i,σ3,H3,I3,st3,Vq,rfl,FZ,F3,dS,L3,S3,Nj,e3⟩;by_cases Wa:i<ds.length
  .refine O3 hp (L2.Ua (T.item X rfl rfl rfl hc i pins s3 σ3 H3 (XE X pins G) I3 (stat Vq) st3 (J1.go i H3 (Nj.trans S3.fh) Wa)) λr s4 ⟨u,hr,h4⟩=>?_);subst hr;refine O3 hp (L2.Ua h4 λ_ s5 ⟨x,H5,I5,r5,y5,vj,So⟩=>?_);have Ux:=I5.pinned (stat So) (T.obj _ _ vj);obtain⟨d,F5,hd,z5,rd⟩:=J1.tj i H3 x H5 F3 Nj S3.fh Wa y5;rw[D4 Wa]at e3;have Hf:ds[i]=d:=by rw[E1 Wa]at hd;exact B3 hd
   rw[Hf]at e3;simp only[Wg]at e3;split at e3
   .rename_i env0 AB;refine O3 hp (L2.Ua (lift (hg _ s5 σ3 H5 x u (λcn H6=>∃F6 L6,lb X.K BF BH F6 H6 cn env0 L6/\Same F1 F6) (Ux.wish _) r5 ⟨BF,BH,F5,dS,L3,d,env0,S3.ext z5,rd,AB,λF6 H6 cn L6 S6 s6=>⟨F6,L6,S6,(Nj.trans z5.ff).trans s6⟩⟩)) λ_ s6 ⟨cn,H6,I6,F6,L6,S6,jt⟩=>?_);have I6:Inv X (pins++uj fp s5.heap) cn H6 s6:=I6.Of;have run:∀(D1:L2.Ends) (o1:XO) (e1:Env),b env0=some (o1,e1)->(match o1 with
      |.ok o2=>∀F' H' σ' L',lb X.K BF BH F' H' σ' e1 L'->Same F6 F'->After D1 m BH F' H' σ' o2
      |.ex c=>o=.ex c/\Oa=e1)->
      wpAny (model X.prog X.w) X.A (execs body X.env) (SP X (pins++uj fp s5.heap) D1) (XE X pins G) s6:=λD1 o1 e1 Wd hk=>by
     refine K3 ((hb (XE X pins G)).h _ s6 cn H6 D1 (I6.wish _) ⟨BF,BH,F6,env0,L6,o1,e1,S6,Wd,?_⟩) (λ_ _ q=>q.Of) λ_ _ q=>q;cases o1 with
     |ok o2=>exact hk
     |ex c=>
      obtain⟨rfl,rfl⟩:=hk;intro F' H' σ' L' s' a C B S' z I' x' Mf;have I':Inv X (pins++uj fp s5.heap) σ' H' s':=I'.Of;have x':Le X (pins++uj fp s5.heap) H' s' a C B:=⟨x'.st,x'.no,x'.ff,x'.cov,x'.it⟩
      exact⟨a,C,B,σ',H',rfl,I'.yk,x'.fewer,c,F',L',rfl,S',(z1.ff.trans jt).trans z,Mf⟩
    have again:∀{Ie:L2.St} {H7:Hp} {s7:Shared} {F7:Hp} {Vv:Env} {L7:Nat->R0},Inv X (pins++uj fp s5.heap) Ie H7 s7->lb X.K BF BH F7 H7 Ie Vv L7->Same F1 F7->Wg g b (ds.drop (i+1)) Vv=some (o,Oa)->
      ∃mm,mm<ds.length-i/\∃i σ' H',Inv X pins σ' H' s7/\tn i s7.heap/\(∀b∈fp,H' b=none)/\mm=ds.length-i/\i<=ds.length/\∃F env L,lb X.K BF BH F H' σ' env L/\Same F1 F/\Wg g b (ds.drop i) env=some (o,Oa):=λ{Ie H7 s7 F7 Vv L7} I7 S7 eS e7=>by
     refine⟨ds.length-(i+1),by omega,i+1,Ie,H7,I7.yk,T.keep _ _ _ vj λb hb o e=>(I7.pin (b,o) (X1 _ (X1 _ (Ro hb e)))).1,λb hb=>?_,rfl,by omega,F7,Vv,L7,S7,eS,e7⟩;obtain⟨o,e,d⟩:=T.obj _ _ vj b hb;exact(I7.pin (b,o) (X1 _ (X1 _ (Ro hb e)))).2.1
    split at e3
    .rename_i e1 Wd;refine O3 hp (L2.Ua (run { nx:=λσ' H'=>∃F' L',lb X.K BF BH F' H' σ' e1 L'/\Same F6 F',ct:=λ_ _=>False,bk:=λ_ _=>False,rt:=λ_ _=>False } _ _ Wd λF' H' σ' L' S' z=>⟨F',L',S',z⟩) λf s7 q7=>?_);cases f with
     |next=>obtain⟨Ie,H7,I7,F',L',S',z⟩:=q7;exact again I7 S' (jt.trans z) e3
     |cont=>obtain⟨_,_,_,q⟩:=q7;exact q.elim
     |brk=>obtain⟨_,_,_,q⟩:=q7;exact q.elim
     |ret v=>obtain⟨_,_,_,_,_,q⟩:=q7;exact q.elim
    .rename_i e1 Wd;refine O3 hp (L2.Ua (run { nx:=λ_ _=>False,ct:=λσ' H'=>∃F' L',lb X.K BF BH F' H' σ' e1 L'/\Same F6 F',bk:=λ_ _=>False,rt:=λ_ _=>False } _ _ Wd λF' H' σ' L' S' z=>⟨F',L',S',z⟩) λf s7 q7=>?_);cases f with
     |cont=>obtain⟨Ie,H7,I7,F',L',S',z⟩:=q7;exact again I7 S' (jt.trans z) e3
     |next=>obtain⟨_,_,_,q⟩:=q7;exact q.elim
     |brk=>obtain⟨_,_,_,q⟩:=q7;exact q.elim
     |ret v=>obtain⟨_,_,_,_,_,q⟩:=q7;exact q.elim
    .rename_i e1 Wd;cases e3;refine O3 hp (L2.Ua (run { nx:=λ_ _=>False,ct:=λ_ _=>False,bk:=λσ' H'=>∃F' L',lb X.K BF BH F' H' σ' Oa L'/\Same F6 F',rt:=λ_ _=>False } _ _ Wd λF' H' σ' L' S' z=>⟨F',L',S',z⟩) λf s7 q7=>?_);cases f with
     |brk=>obtain⟨Ie,H7,I7,F',L',S',z⟩:=q7;exact⟨Ie,H7,I7.yk,k F' H7 Ie L' S' ((z1.ff.trans jt).trans z)⟩
     |next=>obtain⟨_,_,_,q⟩:=q7;exact q.elim
     |cont=>obtain⟨_,_,_,q⟩:=q7;exact q.elim
     |ret v=>obtain⟨_,_,_,_,_,q⟩:=q7;exact q.elim
    .rename_i r e1 Wd;cases e3;refine O3 hp (L2.Ua (run { nx:=λ_ _=>False,ct:=λ_ _=>False,bk:=λ_ _=>False,rt:=D0.rt } _ _ Wd λF' H' σ' L' S' z v q=>k F' H' σ' L' S' ((z1.ff.trans jt).trans z) v q) λf s7 q7=>?_);cases f with
     |ret v=>obtain⟨x7,Ie,H7,I7,r7,q7⟩:=q7;exact⟨x7,Ie,H7,I7.yk,r7,q7⟩
     |next=>obtain⟨_,_,_,q⟩:=q7;exact q.elim
     |cont=>obtain⟨_,_,_,q⟩:=q7;exact q.elim
     |brk=>obtain⟨_,_,_,q⟩:=q7;exact q.elim
    .rename_i c e1 Wd;cases e3;refine O3 hp (L2.Ua (run { nx:=λ_ _=>False,ct:=λ_ _=>False,bk:=λ_ _=>False,rt:=λ_ _=>False } _ _ Wd ⟨rfl,rfl⟩) λf s7 q7=>?_);cases f with
     |ret v=>obtain⟨_,_,_,_,_,q⟩:=q7;exact q.elim
     |next=>obtain⟨_,_,_,q⟩:=q7;exact q.elim
     |cont=>obtain⟨_,_,_,q⟩:=q7;exact q.elim
     |brk=>obtain⟨_,_,_,q⟩:=q7;exact q.elim
    .cases e3
   .cases e3
  .have ei:i=ds.length:=by omega
   subst ei;rw[c6]at e3;cases e3;refine O3 hp (L2.Ua (T.done X rfl rfl rfl hc ds.length pins s3 σ3 H3 (XE X pins G) I3 (stat Vq) st3 (J1.stop H3 (Nj.trans S3.fh))) λr s4 ⟨hr,I4⟩=>?_);subst hr;exact Q5 ⟨σ3,H3,I4,k F3 H3 σ3 L3 S3 (z1.ff.trans Nj)⟩
 .cases e⟩
end
structure FA(K:Frag)(mg:O0)(x:Str)(st:Stmt):Prop where
 ex:∃f fd,mg x=some (.ref f)/\keepIn K (.ref f)=true/\Si K x x st f fd
section
variable{P:Program}{w:World}{K:Frag}{mg:O0}{base h:Heap}{x:Str}{st:Stmt}{N ps:Q0}{k p n:Nat}{m:Mc}
theorem fS{f:Addr}{oc:Value}{od an:Option Addr}{osl:Array (Option Value)}{kV doc pm cdv ct:Value}(X:K.In h)(G:h.Ns mainGlobals mg)(a:nsIn K mainGlobals x=some (some (.ref f)))(l:K.lookup f=some ⟨oc,od,.func (fnOf x x (xi st) (af st) (Ac st) .none kV doc pm an cdv ct),osl⟩)(c:codeIn K cdv x=true)(k:keepIn K (.ref f)=true):FA K mg x st:=⟨⟨f,_,mg_of X G a,k,QC l c k⟩⟩
structure Bd(x:Str)(st:Stmt)(ps:Q0):Prop where
 b:∀{K:Frag} {f:Addr} {fd:FuncData},Si K x x st f fd->L2.Binds K fd ps []
theorem bd0(h:∀(kV doc pm:Value) (an:Option Addr) (cdv ct:Value),bindArgs (fnOf x x (xi st) (af st) (Ac st) .none kV doc pm an cdv ct) ⟨[],[]⟩=pure ([].zip [])):Bd x st []:=⟨λF=>F.binds λ_ _ _ _ _ _ us hl=>match us,hl with|[],_=>h _ _ _ _ _ _⟩
theorem fA{a0:Str}(h:∀(kV doc pm:Value) (an:Option Addr) (cdv ct:Value) (u0:Value),bindArgs (fnOf x x (xi st) (af st) (Ac st) .none kV doc pm an cdv ct) ⟨[u0],[]⟩=pure ([a0].zip [u0])):Bd x st [a0]:=⟨λF=>F.binds λ_ _ _ _ _ _ us hl=>match us,hl with|[u0],_=>h _ _ _ _ _ _ u0⟩
theorem lG{a0 a1:Str}(h:∀(kV doc pm:Value) (an:Option Addr) (cdv ct:Value) (u0 u1:Value),bindArgs (fnOf x x (xi st) (af st) (Ac st) .none kV doc pm an cdv ct) ⟨[u0,u1],[]⟩=pure ([a0,a1].zip [u0,u1])):Bd x st [a0,a1]:=⟨λF=>F.binds λ_ _ _ _ _ _ us hl=>match us,hl with|[u0,u1],_=>h _ _ _ _ _ _ u0 u1⟩
theorem gA{a0 a1 a2:Str}(h:∀(kV doc pm:Value) (an:Option Addr) (cdv ct:Value) (u0 u1 u2:Value),bindArgs (fnOf x x (xi st) (af st) (Ac st) .none kV doc pm an cdv ct) ⟨[u0,u1,u2],[]⟩=pure ([a0,a1,a2].zip [u0,u1,u2])):Bd x st [a0,a1,a2]:=⟨λF=>F.binds λ_ _ _ _ _ _ us hl=>match us,hl with|[u0,u1,u2],_=>h _ _ _ _ _ _ u0 u1 u2⟩
theorem gS{a0 a1 a2 a3:Str}(h:∀(kV doc pm:Value) (an:Option Addr) (cdv ct:Value) (u0 u1 u2 u3:Value),bindArgs (fnOf x x (xi st) (af st) (Ac st) .none kV doc pm an cdv ct) ⟨[u0,u1,u2,u3],[]⟩=pure ([a0,a1,a2,a3].zip [u0,u1,u2,u3])):Bd x st [a0,a1,a2,a3]:=⟨λF=>F.binds λ_ _ _ _ _ _ us hl=>match us,hl with|[u0,u1,u2,u3],_=>h _ _ _ _ _ _ u0 u1 u2 u3⟩
theorem iS{a0 a1 a2 a3 a4:Str}(h:∀(kV doc pm:Value) (an:Option Addr) (cdv ct:Value) (u0 u1 u2 u3 u4:Value),bindArgs (fnOf x x (xi st) (af st) (Ac st) .none kV doc pm an cdv ct) ⟨[u0,u1,u2,u3,u4],[]⟩=pure ([a0,a1,a2,a3,a4].zip [u0,u1,u2,u3,u4])):Bd x st [a0,a1,a2,a3,a4]:=⟨λF=>F.binds λ_ _ _ _ _ _ us hl=>match us,hl with|[u0,u1,u2,u3,u4],_=>h _ _ _ _ _ _ u0 u1 u2 u3 u4⟩
theorem jS{g:St}(S:yj N ps (Ac st))(A:FA K mg x st)(B:Bd x st ps)(hm:(∀BH F' H',m BH F' H' .non .non)\/∀env Oa,g env≠some (.nx,Oa))(hb:∀(f:Addr) (cdv:Value) (A:Around) (outer:List PySem.Env) (s:Shared) (H:Hp) (E:XK),rc k (A.deeper (envOfC x (Ac st) s.heap.objs.size f cdv))->(A.deeper (envOfC x (Ac st) s.heap.objs.size f cdv)).units+64<cLine->N.Nodup->(∀(e:Value) (s:Shared),False->False)->Df (Kg uf P w K mg base N x (Ac st) f cdv A outer s H E).qc m (af st) g)(hp:ps.length=p:=by rfl)(hn:N.length=n:=by rfl):Fh P w K mg base (k+1) x m (run p n g):=by subst hp hn;obtain⟨f,fd,e,kp,F⟩:=A.ex;exact⟨⟨f,fd,ps,e,kp,YD F S hm λcdv A outer s H E hr=>hb f cdv A outer s H E hr hr.units S.nd (λ_ _ h=>h),B.b F⟩⟩
theorem lS{g:Sx}(S:yj N ps (Ac st))(A:FA K mg x st)(B:Bd x st ps)(hm:(∀BH F' H',m BH F' H' .non .non)\/∀env Oa,g env≠some (.ok .nx,Oa))(hb:∀(f:Addr) (cdv:Value) (A:Around) (outer:List PySem.Env) (s:Shared) (H:Hp) (E:XK),rc k (A.deeper (envOfC x (Ac st) s.heap.objs.size f cdv))->(A.deeper (envOfC x (Ac st) s.heap.objs.size f cdv)).units+64<cLine->N.Nodup->(∀(e:Value) (s:Shared),False->False)->PX (Kg (jj P w K) P w K mg base N x (Ac st) f cdv A outer s H E) m (af st) g)(hp:ps.length=p:=by rfl)(hn:N.length=n:=by rfl):Am P w K mg base (k+1) x m (Zc p n g):=by subst hp hn;obtain⟨f,fd,e,kp,F⟩:=A.ex;exact⟨⟨f,fd,ps,e,kp,IR F S hm λcdv A outer s H E hr=>hb f cdv A outer s H E hr hr.units S.nd (λ_ _ h=>h),B.b F⟩⟩
theorem mS{y:Str}{g:St}(S:yj N [y] (Ac st))(A:FA K mg x st)(B:Bd x st [y])(hb:∀(f:Addr) (cdv:Value) (A:Around) (outer:List PySem.Env) (s:Shared) (H:Hp),rc k ((Tn A).deeper (envOfC x (Ac st) s.heap.objs.size f cdv))->((Tn A).deeper (envOfC x (Ac st) s.heap.objs.size f cdv)).units+64<cLine->N.Nodup->Df (eA P w K mg base N x (Ac st) f cdv A outer s H) (rk K .k) (af st) g)(hn:N.length=n:=by rfl):cq P w K mg base (k+1) x (Vs n g):=by subst hn;obtain⟨f,fd,e,kp,F⟩:=A.ex;exact⟨⟨f,fd,y,e,kp,OR F S λcdv A outer s H hr=>hb f cdv A outer s H hr hr.units S.nd,B.b F⟩⟩
theorem nS{φ:V0}(A:FA K mg x st)(B:Bd x st ps)(hφ:∀ds,φ ds=none):Fh P w K mg base k x m φ:=by obtain⟨f,fd,e,kp,F⟩:=A.ex;exact⟨⟨f,fd,ps,e,kp,⟨λ_ _ _ _ h=>(by obtain⟨_,ds,_,_,_,e,_⟩:=h;rw[hφ]at e;cases e),λ_ _ _ _ _ _ _ _ _ _ _ _ _ h=>(by obtain⟨_,ds,_,_,_,e,_⟩:=h;rw[hφ]at e;cases e)⟩,B.b F⟩⟩
end
theorem mG{K:Frag}{H:Hp}:∀ns:K0,Ba K H (ns.map D.int) (ns.map V.int)
 |[]=>Ba.nil
 |n::r=>by rw[V1,V1];exact Ba.cons (by simp[Rep]) (mG r)
theorem oS{K:Frag}{H:Hp}{a:Addr}{ns:K0}{φ:V0}{z}(h:φ [ma ns]=some (.bl true))(hS:Cc K H a (ns.map V.int)):di K (rk K .k) φ [.ref a] H (λv _=>v=.bl true) z:=
 ⟨H,[ma ns],.bl true,.refl H,Ba.cons (by unfold ma;simp only[Rep];exact⟨a,_,rfl,hS,mG ns⟩) Ba.nil,h,λv F' H' _ r=>by simp only[rk,Rep]at r;exact r⟩
noncomputable def pS:St:=(Na (eB (Kc (Ob gr (aa 1) (eC (.int 0))) (Ob ug (aa 1) (za Ta (aa 0))))))
noncomputable def Xg:V0:=run 2 2 pS
noncomputable def qS:Sx:=(jb (Kb (Sa 1 (za Ta (aa 0)))) (jb (Nc (Nf (Ob ug (aa 1) (eC (.int 1))) (Ob Ld (aa 1) (eC (.int 12)))) (Lh 0) (Kb Qa)) (zm (gN 2) (Db (aa 0)) (jb (Nc (Cd (za Ta (aa 2)) (aa 1)) (Lh 0) (Kb Qa)) (Nc (Ye (tB (za Pf (cb 3 (Db (aa 2)) xb (Fa Xg [aa 0,aa 3]))))) (Lh 0) (Kb Qa))))))
noncomputable def Bm:Fx:=Zc 1 4 qS
noncomputable def rS:St:=(ua (Sa 1 (za Ta (aa 0))) (ua (Za (Nf (Ob ug (aa 1) (eC (.int 1))) (Ob Ld (aa 1) (eC (.int 12)))) (Bi) Qa) (yb (gN 2) (Db (aa 0)) (ua (Za (Cd (za Ta (aa 2)) (aa 1)) (Bi) Qa) (Za (Ye (tB (za Pf (cb 3 (Db (aa 2)) xb (Fa Xg [aa 0,aa 3]))))) (Bi) Qa)))))
noncomputable def Vn:V0:=run 1 4 rS
noncomputable def sS:St:=(ua (Sa 1 (za Ta (aa 0))) (ua (yb (gN 2) (vb (aa 1)) (yb (gN 3) (vb (aa 1)) (yb (gN 4) (vb (aa 1)) (Za (Cd (Ka (Ka (aa 0) (Ka (Ka (aa 0) (aa 2)) (aa 3))) (aa 4)) (Ka (Ka (aa 0) (aa 2)) (Ka (Ka (aa 0) (aa 3)) (aa 4)))) (Na (vf [eC (.str "three"),aa 2,aa 3,aa 4])) Qa)))) (Na (eC .non))))
noncomputable def Wv:V0:=run 1 5 sS
noncomputable def uS:St:=(ua (Sa 1 (za Ta (aa 0))) (ua (yb (gN 2) (vb (aa 1)) (Za (tB (za Pf (cb 3 (vb (aa 1)) xb (eB (Kc (Ra (Ka (Ka (aa 0) (aa 2)) (aa 3)) (aa 3)) (Ra (Ka (Ka (aa 0) (aa 3)) (aa 2)) (aa 3))))))) (Na (aa 2)) Qa)) (Na (eC .non))))
noncomputable def Mh:V0:=run 1 4 uS
noncomputable def vS:St:=(ua (yb (gN 3) (vb (za Ta (aa 0))) (Za (Kc (Ra (Ka (Ka (aa 0) (aa 2)) (aa 3)) (aa 1)) (Ra (Ka (Ka (aa 0) (aa 3)) (aa 2)) (aa 1))) (Na (aa 3)) Qa)) (Na (eC .non)))
noncomputable def dq:V0:=run 3 4 vS
noncomputable def wS:St:=(ua (Sa 1 (Fa Wv [aa 0])) (ua (Za (uh (aa 1)) (Na (aa 1)) Qa) (ua (Sa 2 (Fa Mh [aa 0])) (ua (Za (vk (aa 2)) (Na (vf [eC (.str "rest")])) Qa) (ua (yb (gN 3) (vb (za Ta (aa 0))) (Za (vk (Fa dq [aa 0,aa 2,aa 3])) (Na (vf [eC (.str "back"),aa 3])) Qa)) (Na (eC .non)))))))
noncomputable def Wn:V0:=run 1 4 wS
noncomputable def xS:Sx:=(jb (Ab Bm [aa 0]) (Kb (Na (Fa Wn [aa 0]))))
noncomputable def kt:Fx:=Zc 1 1 xS
noncomputable def yS:St:=(ua (md (Fa Vn [aa 0])) (Na (Fa Wn [aa 0])))
noncomputable def nG:V0:=run 1 1 yS
noncomputable def zS:Sx:=(jb (Ab Bm [aa 0]) (Nc (uh (Fa Wn [aa 0])) (Lh 1) (Kb Qa)))
noncomputable def Me:Fx:=Zc 1 1 zS
noncomputable def AS:St:=(ua (md (Fa Vn [aa 0])) (Za (uh (Fa Wn [aa 0])) (Bi) Qa))
noncomputable def Ff:V0:=run 1 1 AS
noncomputable def BS:Sx:=(jb (Ab Me [aa 0]) (Kb (Na (Fa Mh [aa 0]))))
noncomputable def gq:Fx:=Zc 1 1 BS
noncomputable def CS:St:=(ua (md (Fa Ff [aa 0])) (Na (Fa Mh [aa 0])))
noncomputable def oG:V0:=run 1 1 CS
noncomputable def DS:Sx:=(Nc (Ye (tB (Fa Xg [aa 0,aa 1]))) (Lh 2) (Kb Qa))
noncomputable def Ei:Fx:=Zc 2 2 DS
noncomputable def ES:St:=(Za (Ye (tB (Fa Xg [aa 0,aa 1]))) (Bi) Qa)
noncomputable def Xn:V0:=run 2 2 ES
noncomputable def FS:Sx:=(jb (Ab Me [aa 0]) (jb (Ab Ei [aa 0,aa 1]) (Kb (Na (Fa dq [aa 0,Fa Mh [aa 0],aa 1])))))
noncomputable def Yn:Fx:=Zc 2 2 FS
noncomputable def GS:St:=(ua (md (Fa Ff [aa 0])) (ua (md (Fa Xn [aa 0,aa 1])) (Na (Fa dq [aa 0,Fa Mh [aa 0],aa 1]))))
noncomputable def pG:V0:=run 2 2 GS
noncomputable def HS:St:=(ua (Sa 2 (Fa Mh [aa 0])) (ua (mf 3 (Xa [aa 2])) (ua (Sa 4 (aa 1)) (ua (Yf (Cd (aa 4) (aa 2)) (ua (Sh 3 (aa 4)) (Sa 4 (Ka (Ka (aa 0) (aa 4)) (aa 1)))) 1000) (ua (Yc 3) (Na (aa 3)))))))
noncomputable def iq:V0:=run 2 5 HS
noncomputable def IS:Sx:=(jb (Ab Me [aa 0]) (jb (Ab Ei [aa 0,aa 1]) (Kb (Na (za Ta (Fa iq [aa 0,aa 1]))))))
noncomputable def Zn:Fx:=Zc 2 2 IS
noncomputable def JS:St:=(ua (md (Fa Ff [aa 0])) (ua (md (Fa Xn [aa 0,aa 1])) (Na (za Ta (Fa iq [aa 0,aa 1])))))
noncomputable def qG:V0:=run 2 2 JS
noncomputable def KS:Sx:=(jb (Ab Me [aa 0]) (jb (Ab Ei [aa 0,aa 1]) (Kb (ua (Sa 3 (Fa iq [aa 0,aa 1])) (Na (Ka (aa 3) (Ma Gb (aa 2) (za Ta (aa 3)))))))))
noncomputable def ao:Fx:=Zc 3 4 KS
noncomputable def LS:St:=(ua (md (Fa Ff [aa 0])) (ua (md (Fa Xn [aa 0,aa 1])) (ua (Sa 3 (Fa iq [aa 0,aa 1])) (Na (Ka (aa 3) (Ma Gb (aa 2) (za Ta (aa 3))))))))
noncomputable def rG:V0:=run 3 4 LS
noncomputable def MS:St:=(Na (za ir (cb 3 (vb (za Ta (aa 0))) xb (eB (Ra (Ka (Ka (aa 0) (aa 3)) (aa 1)) (Ka (Ka (aa 0) (aa 2)) (aa 3)))))))
noncomputable def iA:V0:=run 3 4 MS
noncomputable def NS:St:=(Na (yh (cb 2 (vb (za Ta (aa 0))) (tB (Fa iA [aa 0,aa 1,aa 2])) (aa 2))))
noncomputable def Xv:V0:=run 2 3 NS
noncomputable def OS:Sx:=(jb (Ab Me [aa 0]) (Kb (ua (sNew 1 (Xa [])) (ua (yb (gN 2) (vb (za Ta (aa 0))) (ua (zh 3 (Fa Xv [aa 0,aa 2])) (Za (Ra (Ka (aa 3) (eC (.int 0))) (aa 2)) (Ai 1 (rg 3)) Qa))) (ua (Yc 1) (Na (rg 1)))))))
noncomputable def jq:Fx:=Zc 1 4 OS
noncomputable def QS:St:=(ua (md (Fa Ff [aa 0])) (ua (sNew 1 (Xa [])) (ua (yb (gN 2) (vb (za Ta (aa 0))) (ua (zh 3 (Fa Xv [aa 0,aa 2])) (Za (Ra (Ka (aa 3) (eC (.int 0))) (aa 2)) (Ai 1 (rg 3)) Qa))) (ua (Yc 1) (Na (rg 1))))))
noncomputable def sG:V0:=run 1 4 QS
noncomputable def RS:St:=(Na (za Pf (cb 2 (vb (za Ta (aa 0))) xb (eB (Ra (Ka (Ka (aa 0) (aa 1)) (aa 2)) (Ka (Ka (aa 0) (aa 2)) (aa 1)))))))
noncomputable def Yv:V0:=run 2 3 RS
noncomputable def SS:Sx:=(jb (Ab Me [aa 0]) (Kb (Na (yh (cb 1 (vb (za Ta (aa 0))) (tB (Fa Yv [aa 0,aa 1])) (aa 1))))))
noncomputable def kq:Fx:=Zc 1 2 SS
noncomputable def US:St:=(ua (md (Fa Ff [aa 0])) (Na (yh (cb 1 (vb (za Ta (aa 0))) (tB (Fa Yv [aa 0,aa 1])) (aa 1)))))
noncomputable def tG:V0:=run 1 2 US
noncomputable def VS:St:=(ua (Sa 1 (eC (.int 0))) (ua (Yf (Nz (aa 1) (aa 0)) (Sa 1 (ib (aa 1) (eC (.int 1)))) 1000) (Na (aa 1))))
noncomputable def uG:V0:=run 1 2 VS
noncomputable def WS:St:=(ua (Mv 3 (aa 2)) (ua (yb (gN 4) (Js (aa 2)) (yb (gN 5) (Js (aa 2)) (ua (Sa 6 (Ka (Ka (aa 0) (aa 4)) (aa 5))) (ua (Sa 7 (Ka (Ka (aa 1) (Zk (aa 2) (aa 4))) (Zk (aa 2) (aa 5)))) (ua (Za (Cd (Mz 3 (aa 6) (aa 7)) (aa 7)) (Na (eC .non)) Qa) (Xk 3 (aa 6) (aa 7))))))) (ua (Yc 3) (ua (Za (Ob ug (za Pz (cb 8 (Js (aa 3)) xb (Zk (aa 3) (aa 8)))) (za Yp (aa 3))) (Na (eC .non)) Qa) (ua (Yc 3) (Na (aa 3)))))))
noncomputable def jA:V0:=run 3 9 WS
noncomputable def XS:St:=(ua (Mv 5 (aa 2)) (ua (Xk 5 (aa 3) (aa 4)) (ua (Yc 5) (ua (Sa 6 (Fa jA [aa 0,aa 1,aa 5])) (ua (Yf (Kc (uh (aa 6)) (Ob Ld (za Yp (aa 6)) (za Yp (aa 5)))) (ua (Sa 5 (aa 6)) (ua (Yc 5) (Sa 6 (Fa jA [aa 0,aa 1,aa 5])))) 1000) (Na (aa 6)))))))
noncomputable def vG:V0:=run 5 7 XS
noncomputable def YS(self:V0):St:=(ua (Za (Ra (za Yp (aa 2)) (za Ta (aa 0))) (Na (yh (cb 3 (vb (za Ta (aa 0))) xb (Zk (aa 2) (aa 3))))) Qa) (ua (Sa 3 (Fa uG [aa 2])) (ua (yb (gN 4) (vb (za Ta (aa 1))) (ua (Sa 5 (Fa vG [aa 0,aa 1,aa 2,aa 3,aa 4])) (Za (uh (aa 5)) (ua (zh 6 (Fa self [aa 0,aa 1,aa 5])) (Za (uh (aa 6)) (Na (rg 6)) Qa)) Qa))) (Na (eC .non)))))
noncomputable def lA:Nat->V0
 |0=>λ_=>none
 |k+1=>run 3 7 (YS (lA k))
noncomputable def nA:V0:=lA 13
noncomputable def ZS:Sx:=(jb (Ab Me [aa 0]) (jb (Ab Me [aa 1]) (Kb (ua (Za (Cd (za Ta (aa 0)) (za Ta (aa 1))) (Na (eC .non)) Qa) (Na (Fa nA [aa 0,aa 1,Hs (Fa Mh [aa 0]) (Fa Mh [aa 1])]))))))
noncomputable def Sj:Fx:=Zc 2 2 ZS
noncomputable def aT:St:=(ua (md (Fa Ff [aa 0])) (ua (md (Fa Ff [aa 1])) (ua (Za (Cd (za Ta (aa 0)) (za Ta (aa 1))) (Na (eC .non)) Qa) (Na (Fa nA [aa 0,aa 1,Hs (Fa Mh [aa 0]) (Fa Mh [aa 1])])))))
noncomputable def wG:V0:=run 2 2 aT
noncomputable def bT:St:=(ua (Sa 4 (za Ta (aa 0))) (ua (Sa 5 (Ka (Ka (aa 0) (Ma Gb (aa 2) (aa 4))) (Ma Gb (aa 3) (aa 4)))) (ua (Sa 6 (Ka (Ka (aa 1) (Ma je (aa 2) (aa 4))) (Ma je (aa 3) (aa 4)))) (Na (ib (aa 5) (Ma Td (aa 6) (aa 4)))))))
noncomputable def nt:V0:=run 4 7 bT
noncomputable def cT:Sx:=(jb (Ab Me [aa 0]) (jb (Ab Me [aa 1]) (jb (Kb (Sa 2 (Ma Td (za Ta (aa 0)) (za Ta (aa 1))))) (jb (Nc (Ob Ld (aa 2) (eC (.int 12))) (Lh 5) (Kb Qa)) (Kb (ua (sNew 3 (Xa [])) (ua (yb (gN 4) (vb (aa 2)) (Ai 3 (yh (cb 5 (vb (aa 2)) xb (Fa nt [aa 0,aa 1,aa 4,aa 5]))))) (ua (Yc 3) (Na (rg 3))))))))))
noncomputable def Fi:Fx:=Zc 2 6 cT
noncomputable def fT:St:=(ua (md (Fa Ff [aa 0])) (ua (md (Fa Ff [aa 1])) (ua (Sa 2 (Ma Td (za Ta (aa 0)) (za Ta (aa 1)))) (ua (Za (Ob Ld (aa 2) (eC (.int 12))) (Bi) Qa) (ua (sNew 3 (Xa [])) (ua (yb (gN 4) (vb (aa 2)) (Ai 3 (yh (cb 5 (vb (aa 2)) xb (Fa nt [aa 0,aa 1,aa 4,aa 5]))))) (ua (Yc 3) (Na (rg 3)))))))))
noncomputable def xG:V0:=run 2 6 fT
noncomputable def gT:St:=(Na (za (Qn " ") (cb 1 (Db (aa 0)) xb (za Zp (aa 1)))))
noncomputable def pt:V0:=run 1 2 gT
noncomputable def iT:Sx:=(jb (Ab Bm [aa 0]) (Kb (Na (za (Qn "/") (cb 1 (Db (aa 0)) xb (Fa pt [aa 1]))))))
noncomputable def qt:Fx:=Zc 1 2 iT
noncomputable def jT:St:=(ua (md (Fa Vn [aa 0])) (Na (za (Qn "/") (cb 1 (Db (aa 0)) xb (Fa pt [aa 1])))))
noncomputable def yG:V0:=run 1 2 jT
noncomputable def kT:St:=(ua (mf 2 (za Je (aa 1))) (ua (yb (gN 3) (Db (aa 1)) (kr 2 (cb 4 (Db (aa 1)) xb (Ka (Ka (aa 0) (aa 3)) (aa 4))))) (Na (za Gk (Ed 2)))))
noncomputable def Zv:V0:=run 2 5 kT
noncomputable def zG:St:=(ua (zh 2 (za Gk (ib (aa 1) (Xa [Fa Mh [aa 0]])))) (ua (zh 3 (Fa Zv [aa 0,aa 2])) (ua (Yf (Cd (aa 3) (aa 2)) (ua (zh 2 (rg 3)) (zh 3 (Fa Zv [aa 0,aa 2]))) 1000) (Na (rg 2)))))
noncomputable def Tj:V0:=run 2 4 zG
noncomputable def lT:Sx:=(jb (Ab Me [aa 0]) (jb (zm (gN 2) (Db (aa 1)) (Ab Ei [aa 0,aa 2])) (Kb (Na (Fa Tj [aa 0,aa 1])))))
noncomputable def bo:Fx:=Zc 2 3 lT
noncomputable def mT:St:=(ua (md (Fa Ff [aa 0])) (ua (yb (gN 2) (Db (aa 1)) (md (Fa Xn [aa 0,aa 2]))) (Na (Fa Tj [aa 0,aa 1]))))
noncomputable def AG:V0:=run 2 3 mT
noncomputable def oT:St:=(Na (vf [za Ta (aa 0),aa 0]))
noncomputable def fo:V0:=run 1 1 oT
noncomputable def pT:Sx:=(jb (Ab Me [aa 0]) (Kb (ua (sNew 1 (Xa [Fa Tj [aa 0,Xa []]])) (ua (yb (gN 2) (vb (za Ta (aa 0))) (yb (gN 3) (Db (za Je (ar 1))) (ua (zh 4 (Fa Tj [aa 0,ib (aa 3) (Xa [aa 2])])) (Za (yi (aa 4) (Ed 1)) (Ai 1 (rg 4)) Qa)))) (Na (za (Qj fo) (Up 1)))))))
noncomputable def lq:Fx:=Zc 1 5 pT
noncomputable def BG:St:=(ua (md (Fa Ff [aa 0])) (ua (sNew 1 (Xa [Fa Tj [aa 0,Xa []]])) (ua (yb (gN 2) (vb (za Ta (aa 0))) (yb (gN 3) (Db (za Je (ar 1))) (ua (zh 4 (Fa Tj [aa 0,ib (aa 3) (Xa [aa 2])])) (Za (yi (aa 4) (Ed 1)) (Ai 1 (rg 4)) Qa)))) (Na (za (Qj fo) (Up 1))))))
noncomputable def CG:V0:=run 1 5 BG
noncomputable def qT:Sx:=(jb (Nc (Ye (tB (za Pf (cb 2 (Db (aa 1)) xb (Fa Xg [aa 0,aa 2]))))) (Lh 3) (Kb Qa)) (Nc (Cd (Fa Tj [aa 0,aa 1]) (aa 1)) (Lh 3) (Kb Qa)))
noncomputable def io:Fx:=Zc 2 3 qT
noncomputable def sT:St:=(ua (Za (Ye (tB (za Pf (cb 2 (Db (aa 1)) xb (Fa Xg [aa 0,aa 2]))))) (Bi) Qa) (Za (Cd (Fa Tj [aa 0,aa 1]) (aa 1)) (Bi) Qa))
noncomputable def tt:V0:=run 2 3 sT
noncomputable def vT:St:=(Na (yh (za Ng (cb 3 (Db (aa 1)) xb (Ka (Ka (aa 0) (aa 2)) (aa 3))))))
noncomputable def ut:V0:=run 3 4 vT
noncomputable def wT:St:=(ua (sNew 2 (Xa [])) (ua (yb (gN 3) (vb (za Ta (aa 0))) (ua (zh 4 (Fa ut [aa 0,aa 1,aa 3])) (Za (Ra (Ka (aa 4) (eC (.int 0))) (aa 3)) (Ai 2 (rg 4)) Qa))) (ua (Yc 2) (Na (rg 2)))))
noncomputable def mq:V0:=run 2 5 wT
noncomputable def xT:Sx:=(jb (Ab Me [aa 0]) (jb (Ab io [aa 0,aa 1]) (Kb (Na (Fa mq [aa 0,aa 1])))))
noncomputable def jo:Fx:=Zc 2 2 xT
noncomputable def yT:St:=(ua (md (Fa Ff [aa 0])) (ua (md (Fa tt [aa 0,aa 1])) (Na (Fa mq [aa 0,aa 1]))))
noncomputable def DG:V0:=run 2 2 yT
noncomputable def zT:St:=(Na (yh (za Ng (cb 3 (Db (aa 1)) xb (Ka (Ka (aa 0) (aa 3)) (aa 2))))))
noncomputable def aw:V0:=run 3 4 zT
noncomputable def AT:St:=(Na (za Pf (cb 2 (vb (za Ta (aa 0))) xb (eB (Ra (Fa ut [aa 0,aa 1,aa 2]) (Fa aw [aa 0,aa 1,aa 2]))))))
noncomputable def nq:V0:=run 2 3 AT
noncomputable def CT:Sx:=(jb (Ab Me [aa 0]) (jb (Ab io [aa 0,aa 1]) (Kb (Na (Fa nq [aa 0,aa 1])))))
noncomputable def ko:Fx:=Zc 2 2 CT
noncomputable def DT:St:=(ua (md (Fa Ff [aa 0])) (ua (md (Fa tt [aa 0,aa 1])) (Na (Fa nq [aa 0,aa 1]))))
noncomputable def EG:V0:=run 2 2 DT
noncomputable def ET:St:=(ua (Oz 2) (ua (yb (g2 3 4) (Ks (aa 1)) (yb (gN 5) (Db (aa 4)) (Xk 2 (aa 5) (aa 3)))) (ua (Sa 6 (cb 4 (Db (aa 1)) xb (Ka (aa 4) (eC (.int 0))))) (ua (mf 7 (Xa [])) (ua (yb (gN 8) (Db (aa 6)) (ua (Yc 2) (Sh 7 (cb 9 (Db (aa 6)) xb (Zk (aa 2) (Ka (Ka (aa 0) (aa 8)) (aa 9))))))) (ua (Yc 7) (Na (aa 7))))))))
noncomputable def bw:V0:=run 2 10 ET
noncomputable def FT:Sx:=(jb (Ab Me [aa 0]) (jb (Ab io [aa 0,aa 1]) (jb (Nc (Ye (tB (Fa nq [aa 0,aa 1]))) (Lh 4) (Kb Qa)) (Kb (ua (Sa 2 (Fa mq [aa 0,aa 1])) (Na (Fa bw [aa 0,aa 2])))))))
noncomputable def ml:Fx:=Zc 2 3 FT
noncomputable def IT:St:=(ua (md (Fa Ff [aa 0])) (ua (md (Fa tt [aa 0,aa 1])) (ua (Za (Ye (tB (Fa nq [aa 0,aa 1]))) (Bi) Qa) (ua (Sa 2 (Fa mq [aa 0,aa 1])) (Na (Fa bw [aa 0,aa 2]))))))
noncomputable def FG:V0:=run 2 3 IT
noncomputable def JT:St:=(ua (Za (Ob ug (aa 1) (za Ta (aa 0))) (Na (Ka (aa 0) (aa 1))) Qa) (Na (eC (.int 0))))
noncomputable def qe:V0:=run 2 2 JT
noncomputable def NT:St:=(ua (Za (Ra (Ma Gb (aa 0) (eC (.int 2))) (eC (.int 0))) (ua (Sa 3 (Ma je (aa 0) (eC (.int 2)))) (ua (yb (gN 4) (vb (aa 1)) (Sa 3 (Ma je (aa 3) (aa 2)))) (Na (Ma Gb (aa 3) (aa 2))))) Qa) (ua (Sa 5 (Ma Gb (Ma Td (ib (ib (Ma Gb (aa 0) (eC (.int 2147483647))) (Ma Td (eC (.int 977)) (aa 1))) (eC (.int 1))) (eC (.int 48271))) (eC (.int 2147483647)))) (ua (Sa 5 (Ma Gb (Ma Td (aa 5) (aa 5)) (eC (.int 2147483629)))) (ua (Sa 5 (Ma Gb (Ma Td (ib (aa 5) (Ma Td (eC (.int 40692)) (ib (aa 1) (eC (.int 3))))) (eC (.int 69621))) (eC (.int 2147483647)))) (Na (Ma Gb (Ma je (aa 5) (eC (.int 8))) (aa 2)))))))
noncomputable def oq:V0:=run 3 6 NT
noncomputable def OT:St:=(ua (Sa 1 (eC (.int 1))) (ua (yb (gN 2) (Db (aa 0)) (Sa 1 (Ma Td (aa 1) (aa 2)))) (ua (mf 3 (Xa [])) (ua (yb (gN 4) (vb (aa 1)) (ua (mf 5 (Xa [])) (ua (yb (gN 6) (vb (aa 1)) (ua (Sa 7 (eC (.int 0))) (ua (Sa 8 (eC (.int 1))) (ua (yb (gN 2) (Db (aa 0)) (ua (Sa 7 (ib (aa 7) (Ma Td (Ma Gb (ib (Ma je (aa 4) (aa 8)) (Ma je (aa 6) (aa 8))) (aa 2)) (aa 8)))) (Sa 8 (Ma Td (aa 8) (aa 2))))) (Sh 5 (aa 7)))))) (ua (Yc 5) (Sh 3 (aa 5)))))) (ua (Yc 3) (Na (aa 3)))))))
noncomputable def GG:V0:=run 1 9 OT
noncomputable def QT:St:=(ua (mf 2 (Xa [])) (ua (yb (gN 3) (vb (Ma Td (eC (.int 2)) (aa 0))) (ua (mf 4 (Xa [])) (ua (yb (gN 5) (vb (Ma Td (eC (.int 2)) (aa 0))) (ua (Sa 6 (Ka (Xa [Ma Gb (aa 5) (aa 0),Ma Lg (eC (.int 0)) (Ma Gb (aa 5) (aa 0))]) (Ma je (aa 3) (aa 0)))) (ua (Sa 7 (Ma Td (Ma je (aa 3) (aa 0)) (Ma je (aa 5) (aa 0)))) (ua (Sa 8 (Ma Gb (ib (ib (Ma Gb (aa 3) (aa 0)) (aa 6)) (Ma Td (aa 1) (aa 7))) (aa 0))) (Sh 4 (ib (aa 8) (Ma Td (aa 0) (Ma Gb (ib (Ma je (aa 3) (aa 0)) (Ma je (aa 5) (aa 0))) (eC (.int 2)))))))))) (ua (Yc 4) (Sh 2 (aa 4)))))) (ua (Yc 2) (Na (aa 2)))))
noncomputable def HG:V0:=run 2 9 QT
noncomputable def RT:St:=(ua (Sa 0 (Xa [Xa []])) (ua (yb (gN 1) (vb (eC (.int 4))) (ua (Sa 2 (Xa [])) (ua (yb (gN 3) (Db (aa 0)) (Sa 2 (ib (aa 2) (cb 4 (vb (eC (.int 4))) (yi (aa 4) (aa 3)) (ib (aa 3) (Xa [aa 4])))))) (Sa 0 (aa 2))))) (ua (mf 5 (Xa [])) (ua (yb (gN 3) (Db (aa 0)) (ua (Sa 6 (eC (.int 0))) (ua (yb (gN 7) (vb (eC (.int 4))) (Sa 6 (ib (aa 6) (za Ta (cb 1 (vb (aa 7)) (Ob Ld (Ka (aa 3) (aa 1)) (Ka (aa 3) (aa 7))) (aa 1)))))) (Za (Ra (Ma Gb (aa 6) (eC (.int 2))) (eC (.int 0))) (Sh 5 (aa 3)) Qa)))) (ua (mf 8 (Xa [])) (ua (Yc 5) (ua (yb (gN 9) (Db (aa 5)) (ua (Yc 5) (Sh 8 (cb 10 (Db (aa 5)) xb (De Gu (Ed 5) (cb 4 (Db (aa 9)) xb (Ka (aa 10) (aa 4)))))))) (ua (Yc 8) (Na (aa 8))))))))))
noncomputable def IG:V0:=run 0 11 RT
noncomputable def UT:St:=(ua (Sa 1 (Xa [Xa [eC (.int 1)],Xa [eC (.int 2)],Xa [eC (.int 3)],Xa [eC (.int 4)],Xa [eC (.int 2),eC (.int 2)],Xa [eC (.int 5)],Xa [eC (.int 6)],Xa [eC (.int 7)],Xa [eC (.int 8)]])) (ua (Sa 1 (ib (aa 1) (Xa [Xa [eC (.int 2),eC (.int 4)],Xa [eC (.int 2),eC (.int 2),eC (.int 2)],Xa [eC (.int 9)],Xa [eC (.int 3),eC (.int 3)],Xa [eC (.int 10)],Xa [eC (.int 11)],Xa [eC (.int 12)],Xa [eC (.int 2),eC (.int 6)]]))) (ua (Za (Ob ug (aa 0) (eC (.int 17))) (Na (Fa GG [Ka (aa 1) (aa 0)])) Qa) (ua (Za (Ob ug (aa 0) (eC (.int 23))) (ua (Sa 2 (Ka (Xa [vf [eC (.int 3),eC (.int 0)],vf [eC (.int 4),eC (.int 0)],vf [eC (.int 5),eC (.int 0)],vf [eC (.int 6),eC (.int 0)],vf [eC (.int 4),eC (.int 2)],vf [eC (.int 6),eC (.int 3)]]) (Ma Lg (aa 0) (eC (.int 17))))) (Na (Fa HG [Ka (aa 2) (eC (.int 0)),Ka (aa 2) (eC (.int 1))]))) Qa) (Na (Fa IG []))))))
noncomputable def Cm:V0:=run 1 3 UT
noncomputable def oA:St:=(ua (mf 2 (Xa [])) (ua (yb (gN 3) (vb (za Ta (aa 0))) (Yo 2 (Ma Gb (Fa oq [aa 1,aa 3,eC (.int 12)]) (ib (aa 3) (eC (.int 1)))) (aa 3))) (ua (Cj 4 (cb 5 (Db (aa 0)) xb (za Je (aa 5)))) (ua (yb (gN 6) (vb (za Ta (aa 0))) (yb (gN 7) (vb (za Ta (aa 0))) (Ui 4 (Ka (Ed 2) (aa 6)) (Ka (Ed 2) (aa 7)) (Ti (Ka (Ed 2) (Ka (Ka (aa 0) (aa 6)) (aa 7))))))) (bp 4)))))
noncomputable def pA:V0:=run 2 8 oA
noncomputable def qA:St:=(Na (Fa pA [Fa Cm [Ma Gb (Fa qe [aa 0,aa 1]) (eC (.int 24))],Fa qe [aa 0,ib (aa 1) (eC (.int 1))]]))
noncomputable def cw:V0:=run 2 2 qA
noncomputable def VT:St:=(Na (Ka (cb 1 (vb (za Ta (aa 0))) (Ra (Ka (aa 0) (aa 1)) (za Vl (za Ta (aa 0)))) (aa 1)) (eC (.int 0))))
noncomputable def dw:V0:=run 1 2 VT
noncomputable def rA:St:=(Na (cb 1 (Db (aa 0)) xb (za Je (aa 1))))
noncomputable def ql:V0:=run 1 2 rA
noncomputable def JG:St:=(ua (Sa 2 (Xa [Xa []])) (ua (yb (gN 3) (Db (aa 0)) (Sa 2 (ib (aa 2) (cb 4 (Db (aa 2)) (Ob ug (za Ta (aa 4)) (aa 1)) (ib (aa 4) (Xa [aa 3])))))) (Na (cb 4 (Db (aa 2)) (Ra (za Ta (aa 4)) (aa 1)) (aa 4)))))
noncomputable def sA:V0:=run 2 5 JG
noncomputable def WT:St:=(ua (yb (gN 2) (Db (aa 1)) (yb (gN 3) (Db (aa 1)) (Za (yi (Ka (Ka (aa 0) (aa 2)) (aa 3)) (aa 1)) (Na (eC (.bl false))) Qa))) (Na (eC (.bl true))))
noncomputable def uA:V0:=run 2 4 WT
noncomputable def KG:St:=(ua (Sa 1 (Fa dw [aa 0])) (ua (Sa 2 (cb 3 (vb (za Ta (aa 0))) (Cd (aa 3) (aa 1)) (aa 3))) (ua (Sa 4 (Xa [])) (ua (yb (gN 5) (bn (eC (.int 1)) (ib (za Ta (aa 0)) (eC (.int 1)))) (Za (Ra (Ma Gb (za Ta (aa 0)) (aa 5)) (eC (.int 0))) (ua (Sa 6 (cb 7 (Db (Fa sA [aa 2,Ma Lg (aa 5) (eC (.int 1))])) xb (za Ng (ib (Xa [aa 1]) (aa 7))))) (Sa 4 (ib (aa 4) (za Ng (cb 7 (Db (aa 6)) (tB (Fa uA [aa 0,aa 7])) (aa 7)))))) Qa)) (Na (aa 4))))))
noncomputable def vA:V0:=run 1 8 KG
noncomputable def LG:St:=(ua (Sa 1 (Xa [Rj [0,1,2,3,4,5] 0 0,Rj [0,1,2,3,4,5] 0 1,Rj [0,1,2,3,4,5] 0 2])) (ua (Sa 1 (ib (aa 1) (Xa [Rj [0,1,2,3,4,5] 0 3,Rj [0,1,2,3,4,5] 0 4,Rj [0,1,2,3,4,5] 0 5]))) (ua (Sa 1 (ib (aa 1) (Xa [Rj [0,1,2,3,4,5] 0 6]))) (ua (Za (Nf (Cd (De Yz (aa 1) (eC (.bl true))) (eC (.int 1))) (Ye (tB (Xz [0,1,2,3,4,5] 0)))) (Na (eC (.str "other"))) Qa) (Na (Ka (Xa [eC (.str "table"),eC (.str "folk"),eC (.str "element"),eC (.str "part"),eC (.str "loose"),eC (.str "large"),eC (.str "note")]) (De Gu (aa 1) (eC (.bl true)))))))))
noncomputable def vt:Nat->Option D:=Vs 2 LG
noncomputable def XT:Sx:=(jb (Nc (Ra (aa 0) (eC (.int 0))) (Ab kt [aa 1]) (Kb Qa)) (jb (Nc (Ra (aa 0) (eC (.int 1))) (Ab qt [aa 1]) (Kb Qa)) (jb (Nc (Ra (aa 0) (eC (.int 2))) (Ab gq [aa 1]) (Kb Qa)) (jb (Nc (Ra (aa 0) (eC (.int 3))) (Ab lq [aa 1]) (Kb Qa)) (jb (Nc (Ra (aa 0) (eC (.int 4))) (Ab jq [aa 1]) (Kb Qa)) (jb (Nc (Ra (aa 0) (eC (.int 5))) (Ab kq [aa 1]) (Kb Qa)) (jb (Nc (Ra (aa 0) (eC (.int 6))) (Ab Yn [aa 1,aa 2]) (Kb Qa)) (jb (Nc (Ra (aa 0) (eC (.int 7))) (Ab Zn [aa 1,aa 2]) (Kb Qa)) (jb (Nc (Ra (aa 0) (eC (.int 8))) (Ab ao [aa 1,aa 2,eC (.int 5)]) (Kb Qa)) (Nc (Ra (aa 0) (eC (.int 9))) (Ab bo [aa 1,Xa [eC (.int 0),aa 2]]) (Kb Qa)))))))))))
noncomputable def oo:Fx:=Zc 3 3 XT
noncomputable def YT:Sx:=(jb (Kb (Sa 3 (Xa [Xa [eC (.int 0),eC (.int 1)],Xa [eC (.int 1),eC (.int 0)]]))) (jb (Nc (Ra (aa 0) (eC (.int 10))) (Ab jo [aa 1,aa 2]) (Kb Qa)) (jb (Nc (Ra (aa 0) (eC (.int 11))) (Ab ko [aa 1,aa 2]) (Kb Qa)) (jb (Nc (Ra (aa 0) (eC (.int 12))) (Ab ml [aa 1,aa 2]) (Kb Qa)) (jb (Nc (Ra (aa 0) (eC (.int 13))) (Ab Sj [aa 1,aa 3]) (Kb Qa)) (jb (Nc (Ra (aa 0) (eC (.int 14))) (Ab Sj [aa 3,aa 1]) (Kb Qa)) (jb (Nc (Ra (aa 0) (eC (.int 15))) (Ab Fi [aa 1,aa 3]) (Kb Qa)) (Nc (Ra (aa 0) (eC (.int 16))) (Ab Fi [aa 3,aa 1]) (Kb Qa)))))))))
noncomputable def qo:Fx:=Zc 3 4 YT
noncomputable def ZT:St:=(ua (Ws (jb (Ab oo [aa 0,aa 1,aa 2]) (Ab qo [aa 0,aa 1,aa 3])) vt) (Na (eC (.str "done"))))
noncomputable def pq:V0:=run 4 5 ZT
noncomputable def wA:St:=(ua (Sa 3 (Ma Gb (Fa qe [aa 0,eC (.int 4)]) (za Ta (aa 1)))) (ua (Sa 4 (Ma Gb (Fa qe [aa 0,eC (.int 5)]) (za Ta (aa 1)))) (ua (Sa 5 (Ma Gb (Fa qe [aa 0,eC (.int 6)]) (Ma gn (eC (.int 10)) (eC (.int 38))))) (ua (Cj 6 (Fa ql [aa 1])) (ua (Za (Ra (aa 2) (eC (.int 0))) (Na (Xa [])) Qa) (ua (Za (Ra (aa 2) (eC (.int 1))) (aq 6 (aa 3) (aa 4)) Qa) (ua (Za (Ra (aa 2) (eC (.int 2))) (bq 6 (aa 3) (aa 4) 0) Qa) (ua (Za (Ra (aa 2) (eC (.int 3))) (ua (Yc 6) (Na (ib (aa 6) (Xa [cb 7 (Db (aa 1)) xb (eC (.int 0))])))) Qa) (ua (Za (Ra (aa 2) (eC (.int 4))) (Ui 6 (aa 3) (aa 4) (Ka (Xa [ib (za Ta (aa 1)) (aa 5),Ma Lg (eC (.int (-1))) (aa 5)]) (Ma Gb (Fa qe [aa 0,eC (.int 6)]) (eC (.int 2))))) Qa) (ua (Za (Ra (aa 2) (eC (.int 5))) (Na (cb 9 (vb (eC (.int 13))) xb (cb 8 (vb (eC (.int 13))) xb (Ma Gb (ib (aa 9) (aa 8)) (eC (.int 13)))))) Qa) (ua (Yc 6) (Na (aa 6)))))))))))))
noncomputable def xA:V0:=run 3 10 wA
noncomputable def MG:St:=(ua (Sa 4 (Ma Gb (Fa qe [aa 0,eC (.int 6)]) (Ma gn (eC (.int 10)) (eC (.int 38))))) (ua (Sa 5 (Fa dw [aa 1])) (ua (Sa 6 (cb 7 (vb (za Ta (aa 1))) (Cd (aa 7) (aa 5)) (aa 7))) (ua (Za (Ra (aa 3) (eC (.int 0))) (Na (Xa [])) Qa) (ua (Za (Ra (aa 3) (eC (.int 1))) (Na (ib (aa 2) (Xa [Ka (aa 2) (eC (.int (-1)))]))) Qa) (ua (Za (Ra (aa 3) (eC (.int 2))) (Na (ib (aa 2) (Xa [ib (za Ta (aa 1)) (aa 4)]))) Qa) (ua (Za (Ra (aa 3) (eC (.int 3))) (Na (ib (Xa [Ma Lg (eC (.int (-1))) (aa 4)]) (aa 2))) Qa) (ua (Za (Kc (Ra (aa 3) (eC (.int 4))) (Ob Ld (za Ta (aa 2)) (eC (.int 1)))) (Na (ib (Xf (aa 2) (Wf (eC (.int 1))) vg) (Xf (aa 2) vg (Wf (eC (.int 1)))))) Qa) (ua (Za (Ra (aa 3) (eC (.int 5))) (yb (gN 8) (vb (za Ta (aa 1))) (ua (Sa 7 (Ma Gb (ib (aa 4) (aa 8)) (za Ta (aa 1)))) (Za (yi (Ka (Ka (aa 1) (aa 7)) (aa 7)) (Xa [aa 5,aa 7])) (Na (za Ng (Xa [aa 5,aa 7]))) Qa))) Qa) (ua (Za (Kc (Ra (aa 3) (eC (.int 5))) (Ob Ld (za Ta (aa 6)) (eC (.int 1)))) (Na (za Ng (ib (Xa [aa 5]) (Xf (aa 6) vg (Wf (eC (.int 2))))))) Qa) (Na (cb 7 (Db (aa 2)) (Cd (aa 7) (aa 5)) (aa 7)))))))))))))
noncomputable def yA:V0:=run 4 9 MG
noncomputable def NG:St:=(ua (Sa 1 (Fa cw [aa 0,eC (.int 0)])) (ua (Sa 2 (Fa vA [aa 1])) (ua (Sa 3 (Ka (aa 2) (Ma Gb (Fa qe [aa 0,eC (.int 2)]) (za Ta (aa 2))))) (ua (Sa 4 (Ma Gb (Fa qe [aa 0,eC (.int 6)]) (Ma gn (eC (.int 10)) (eC (.int 38))))) (ua (Sa 5 (Ma Gb (Fa qe [aa 0,eC (.int 3)]) (za Ta (aa 1)))) (ua (mf 6 (Xa [eC (.str "done"),eC (.str "done"),eC (.str "done"),eC (.str "done")])) (ua (Za (Ra (Ma Gb (Fa qe [aa 0,eC (.int 7)]) (eC (.int 3))) (eC (.int 1))) (ua (Sa 5 (Ka (Xa [eC (.int (-1)),za Ta (aa 1),Ma Lg (eC (.int (-1))) (aa 4),ib (za Ta (aa 1)) (aa 4)]) (Ma Gb (Ma je (Fa qe [aa 0,eC (.int 7)]) (eC (.int 3))) (eC (.int 4))))) (Zo 6 (eC (.int 2)) (eC (.str "element")))) Qa) (ua (Za (Ra (Ma Gb (Fa qe [aa 0,eC (.int 8)]) (eC (.int 3))) (eC (.int 1))) (ua (Sa 3 (Fa yA [aa 0,aa 1,aa 3,Ma Gb (Ma je (Fa qe [aa 0,eC (.int 8)]) (eC (.int 3))) (eC (.int 7))])) (Zo 6 (eC (.int 3)) (eC (.str "part")))) Qa) (ua (Za (Ra (Ma Gb (Fa qe [aa 0,eC (.int 9)]) (eC (.int 4))) (eC (.int 1))) (ua (Sa 1 (Xf (cb 8 (vb (ib (za Ta (aa 1)) (eC (.int 1)))) xb (cb 7 (vb (ib (za Ta (aa 1)) (eC (.int 1)))) xb (Ma br (aa 8) (aa 7)))) vg (Wf (eC (.int 12))))) (ua (Sa 1 (cb 9 (Db (aa 1)) xb (Xf (aa 9) vg (Wf (za Ta (aa 1)))))) (mf 6 (Xa [eC (.str "done"),eC (.str "folk"),eC (.str "folk"),eC (.str "folk")])))) Qa) (ua (Za (Ra (Ma Gb (Fa qe [aa 0,eC (.int 9)]) (eC (.int 4))) (eC (.int 2))) (ua (Sa 1 (Fa xA [aa 0,aa 1,Ma Gb (Ma je (Fa qe [aa 0,eC (.int 9)]) (eC (.int 4))) (eC (.int 6))])) (mf 6 (Xa [eC (.str "table"),eC (.str "table"),eC (.str "table"),eC (.str "table")]))) Qa) (ua (yb (gN 10) (vb (eC (.int 17))) (ua (Sa 11 (Ti (Ka (Ed 6) (ib (ib (za ij (eB (Ob Ld (aa 10) (eC (.int 1))))) (za ij (eB (Ob Ld (aa 10) (eC (.int 5)))))) (za ij (eB (Ob Ld (aa 10) (eC (.int 9))))))))) (ua (Za (Kc (Ob Ld (aa 10) (eC (.int 12))) (Ra (aa 11) (eC (.str "part")))) (Sa 11 (eC (.str "done"))) Qa) (ua (Sa 12 (Fa pq [aa 10,Fa ql [aa 1],aa 5,za Je (aa 3)])) (ua (Za (Kc (Ra (aa 11) (eC (.str "done"))) (Nf (Kc (Ra (aa 10) (eC (.int 12))) (Ra (aa 12) (eC (.str "loose")))) (Kc (Ob Ld (aa 10) (eC (.int 14))) (Ra (aa 12) (eC (.str "large")))))) (Sa 12 (eC (.str "done"))) Qa) (Za (Cd (aa 12) (aa 11)) (Na (eC (.bl false))) Qa)))))) (Na (eC (.bl true))))))))))))))
noncomputable def wt:V0:=run 1 13 NG
noncomputable def uo(T:J0):D->D->D->Option D
 |.int a,.int b,.int c=>if tg T (tg T a b) c==tg T a (tg T b c)then none else some (.tup [.str "three",.int a,.int b,.int c])
 |_,_,_=>none
noncomputable def ul(T:J0)(n:Nat):Option D:=
 (cc 0 n).findSome? λa=>(cc 0 n).findSome? λb=>(cc 0 n).findSome? λc=>uo T a b c
noncomputable def wo:St:=Za (Cd (Ka (Ka (aa 0) (Ka (Ka (aa 0) (aa 2)) (aa 3))) (aa 4)) (Ka (Ka (aa 0) (aa 2)) (Ka (Ka (aa 0) (aa 3)) (aa 4))))
 (Na (vf [eC (.str "three"),aa 2,aa 3,aa 4])) Qa
theorem aU{T:J0}{n:Nat}(hT:Tab T n){env:Env}{a b c:Nat}(ha:a<n)(hb:b<n)(hc:c<n)(k0:aa 0 env=some (la T))(k2:aa 2 env=some (.int a))(k3:aa 3 env=some (.int b))(k4:aa 4 env=some (.int c)):wo env=match uo T (.int a) (.int b) (.int c)with
   |some r=>some (.rt r,env)
   |none=>some (.nx,env):=by
 have b1:=hT.bound (a:=a) (b:=b) (by omega) (by omega) (by omega) (by omega);have b2:=hT.bound (a:=b) (b:=c) (by omega) (by omega) (by omega) (by omega);have e1:=Fj hT (env:=env) (e0:=aa 0) (e1:=aa 2) (e2:=aa 3) k0 k2 k3 (by omega) (by omega) (by omega) (by omega);have e2:=Fj hT (env:=env) (e0:=aa 0) (e1:=aa 3) (e2:=aa 4) k0 k3 k4 (by omega) (by omega) (by omega) (by omega);have e3:=Fj hT (env:=env) (e0:=aa 0) k0 e1 k4 b1.1 b1.2 (by omega) (by omega);have e4:=Fj hT (env:=env) (e0:=aa 0) k0 k2 e2 (by omega) (by omega) b2.1 b2.2;simp only[wo,Za,uy e3 e4,uo];cases hq:tg T (tg T (a:Int) (b:Int)) (c:Int)==tg T (a:Int) (tg T (b:Int) (c:Int))with
 |true=>simp[Qa]
 |false=>simp[Na,vf,evs,eC,k2,k3,k4]
theorem bU{T:J0}{n:Nat}(hT:Tab T n){it:Lx}{env0:Env}(k0:aa 0 env0=some (la T))(hl:5<=env0.length)(hit:∀env,Yb [2,3,4] env env0->it env=some (cc 0 n)):(∀r,ul T n=some r->∃e1,yb (gN 2) it (yb (gN 3) it (yb (gN 4) it wo)) env0=some (.rt r,e1))/\(ul T n=none->∃e1,yb (gN 2) it (yb (gN 3) it (yb (gN 4) it wo)) env0=some (.nx,e1)/\Yb [2,3,4] e1 env0):=by
 rw[Vi (hit env0 (Yb.refl _ _))];refine xn (λenv=>Yb [2,3,4] env env0) _ _ env0 (λda fZ env hA=>?_) (Yb.refl _ _);obtain⟨a,ha,rfl⟩:=Zf fZ;refine⟨_,rfl,?_⟩;have A1:Yb [2,3,4] (env.set 2 (.sh (.int a))) env0:=hA.set (by simp) _;have v2:aa 2 (env.set 2 (.sh (.int a)))=some (.int a):=Ah (by rw[hA.len];omega);rw[Vi (hit _ A1)];have key:=xn (g:=gN 3) (b:=yb (gN 4) it wo)
  (λenv=>Yb [2,3,4] env env0/\aa 2 env=some (.int a)) (λb=>(cc 0 n).findSome? λc=>uo T (.int a) b c) (cc 0 n) (env.set 2 (.sh (.int a))) (λdb Vd env hB=>?_) ⟨A1,v2⟩
 .exact⟨key.1,λh=>let ⟨e1,x,y⟩:=key.2 h;⟨e1,x,y.1⟩⟩
 obtain⟨b,hb,rfl⟩:=Zf Vd;obtain⟨hB,w2⟩:=hB;refine⟨_,rfl,?_⟩;have A2:Yb [2,3,4] (env.set 3 (.sh (.int b))) env0:=hB.set (by simp) _;have v3:aa 3 (env.set 3 (.sh (.int b)))=some (.int b):=Ah (by rw[hB.len];omega);have cU:aa 2 (env.set 3 (.sh (.int b)))=some (.int a):=by rw[Dj (by decide)];exact w2
 rw[Vi (hit _ A2)];have key:=xn (g:=gN 4) (b:=wo) (λenv=>Yb [2,3,4] env env0/\aa 2 env=some (.int a)/\aa 3 env=some (.int b)) (λc=>uo T (.int a) (.int b) c) (cc 0 n)
  (env.set 3 (.sh (.int b))) (λdc gZ env hC=>?_) ⟨A2,cU,v3⟩
 .exact⟨key.1,λh=>let ⟨e1,x,y⟩:=key.2 h;⟨e1,x,y.1,y.2.1⟩⟩
 obtain⟨c,hc,rfl⟩:=Zf gZ;obtain⟨hC,u2,u3⟩:=hC;refine⟨_,rfl,?_⟩;have A3:Yb [2,3,4] (env.set 4 (.sh (.int c))) env0:=hC.set (by simp) _;have v4:aa 4 (env.set 4 (.sh (.int c)))=some (.int c):=Ah (by rw[hC.len];omega);have OG:aa 2 (env.set 4 (.sh (.int c)))=some (.int a):=by rw[Dj (by decide)];exact u2
 have QG:aa 3 (env.set 4 (.sh (.int c)))=some (.int b):=by rw[Dj (by decide)];exact u3
 have v0:aa 0 (env.set 4 (.sh (.int c)))=some (la T):=by rw[A3.var (by decide)];exact k0
 have tb:=aU hT ha hb hc v0 OG QG v4;refine⟨λr hr=>?_,λhn=>?_⟩
 .rw[hr]at tb;exact⟨_,tb⟩
 .rw[hn]at tb;exact⟨_,tb,A3,OG,QG⟩
theorem dU{T:J0}{n:Nat}(hT:Tab T n):Wv [la T]=some ((ul T n).getD .non):=by
 have e:Sa 1 (za Ta (aa 0)) (enter 5 [la T])=some (.nx,[Sl.sh (la T),Sl.sh (.int n),Sl.un,Sl.un,Sl.un]):=by rw[Wi (Yl rfl |>.trans (jp T)),hT.len];rfl
 have key:=bU hT (it:=vb (aa 1)) (env0:=[Sl.sh (la T),Sl.sh (.int n),Sl.un,Sl.un,Sl.un]) rfl (by simp) λenv hA=>Pg (by rw[hA.var (by decide)];rfl) (by have:=hT.top;omega);unfold wo at key;cases h:ul T n with
 |some r=>obtain⟨e1,x⟩:=key.1 r h;exact Zd rfl ((Jc e).trans (Wl x))
 |none=>obtain⟨e1,x,hA⟩:=key.2 h;exact Zd rfl ((Jc e).trans ((Jc x).trans (zf rfl)))
noncomputable def Gi(T:J0)(n:Nat)(e:Int):Bool:=(List.range n).all λa=>tg T e a==a&&tg T a e==a
noncomputable def intOf:D->Int
 |.int i=>i
 |_=>0
noncomputable def restOf(T:J0)(n:Nat):Option D:=(cc 0 n).findSome? λd=>if Gi T n (intOf d)then some d else none
theorem all_rangeD{n:Nat}{p:D->Bool}:(cc 0 n).all p=(List.range n).all λk=>p (.int k):=by simp only[cc,R7];congr 1;funext k;simp
theorem eU{T:J0}{n:Nat}(hT:Tab T n){it:Lx}{env:Env}{ie ia:Nat}(ic:ia≠ie)(hZ:ia≠0)(hl:ia<env.length)(hit:it env=some (cc 0 n))(k0:aa 0 env=some (la T)){e:Nat}(he:e<n)(ke:aa ie env=some (.int e)):tB (za Pf (cb ia it xb (eB (Kc (Ra (Ka (Ka (aa 0) (aa ie)) (aa ia)) (aa ia)) (Ra (Ka (Ka (aa 0) (aa ia)) (aa ie)) (aa ia)))))) env=some (Gi T n e):=by
 have hn:n<=lim:=by have:=hT.top;rw[yc];omega
 have hc:=yn (i:=ia) (e:=eB (Kc (Ra (Ka (Ka (aa 0) (aa ie)) (aa ia)) (aa ia)) (Ra (Ka (Ka (aa 0) (aa ia)) (aa ie)) (aa ia)))) (env:=env)
  (λd=>.bl (tg T e (intOf d)==intOf d&&tg T (intOf d) e==intOf d)) (cc 0 n) (λd hd=>by
   obtain⟨a,ha,rfl⟩:=Zf hd;have v0:aa 0 (env.set ia (.sh (.int a)))=some (la T):=by rw[Dj hZ];exact k0
   have ve:aa ie (env.set ia (.sh (.int a)))=some (.int e):=by rw[Dj ic];exact ke
   have va:aa ia (env.set ia (.sh (.int a)))=some (.int a):=Ah hl;have e1:=Fj hT v0 ve va (by omega) (by omega) (by omega) (by omega);have e2:=Fj hT v0 va ve (by omega) (by omega) (by omega) (by omega);simp only[eB,Kc,lp e1 va,lp e2 va,intOf];cases tg T (e:Int) (a:Int)==(a:Int)<;>simp)
 simp only[tB,za,cb,hit,Og,hn,M6,hc,Pf,my,all_rangeD,Gi,intOf]
theorem zt{T:J0}{n:Nat}(hT:Tab T n):Mh [la T]=some ((restOf T n).getD .non):=by
 have e:Sa 1 (za Ta (aa 0)) (enter 4 [la T])=some (.nx,[Sl.sh (la T),Sl.sh (.int n),Sl.un,Sl.un]):=by rw[Wi (Yl rfl |>.trans (jp T)),hT.len];rfl
 have i1:∀env,Yb [2] env [Sl.sh (la T),Sl.sh (.int n),Sl.un,Sl.un]->vb (aa 1) env=some (cc 0 n):=λenv hA=>Pg (by rw[hA.var (by decide)];rfl) (by have:=hT.top;omega);have key:=xn (g:=gN 2) (b:=Za (tB (za Pf (cb 3 (vb (aa 1)) xb (eB (Kc (Ra (Ka (Ka (aa 0) (aa 2)) (aa 3)) (aa 3)) (Ra (Ka (Ka (aa 0) (aa 3)) (aa 2)) (aa 3))))))) (Na (aa 2)) Qa)
  (λenv=>Yb [2] env [Sl.sh (la T),Sl.sh (.int n),Sl.un,Sl.un]) (λd=>if Gi T n (intOf d)then some d else none) (cc 0 n) [Sl.sh (la T),Sl.sh (.int n),Sl.un,Sl.un] (λd hd env hA=>by
   obtain⟨a,ha,rfl⟩:=Zf hd;refine⟨_,rfl,?_⟩;have A1:Yb [2] (env.set 2 (.sh (.int a))) [Sl.sh (la T),Sl.sh (.int n),Sl.un,Sl.un]:=hA.set (by simp) _;have v2:aa 2 (env.set 2 (.sh (.int a)))=some (.int a):=Ah (by rw[hA.len];simp);have Nh:=eU hT (it:=vb (aa 1)) (env:=env.set 2 (.sh (.int a))) (ie:=2) (ia:=3) (by decide) (by decide) (by rw[A1.len];simp) (i1 _ A1) (by rw[A1.var (by decide)];rfl) ha v2;by_cases hq:Gi T n (a:Int)=true
   .rw[hq]at Nh;rw[rn Nh,zf v2];simp[intOf,hq]
   .rw[G7]at hq;rw[hq]at Nh;rw[wg Nh];simp[intOf,hq,Qa,A1]) (Yb.refl _ _)
 have hi:=i1 _ (Yb.refl _ _);rw[<-Vi (g:=gN 2) hi]at key;unfold restOf;cases h:(cc 0 n).findSome? λd=>if Gi T n (intOf d)then some d else none with
 |some r=>obtain⟨e1,x⟩:=key.1 r h;exact Zd rfl ((Jc e).trans (Wl x))
 |none=>obtain⟨e1,x,hA⟩:=key.2 h;exact Zd rfl ((Jc e).trans ((Jc x).trans (zf rfl)))
noncomputable def Uj(T:J0)(s e b:Int):Bool:=tg T e b==s&&tg T b e==s
noncomputable def Vj(T:J0)(n:Nat)(s e:Int):Option D:=(cc 0 n).findSome? λd=>if Uj T s e (intOf d)then some d else none
theorem Ad{T:J0}{n:Nat}(hT:Tab T n){env:Env}{e:Ex}(h:e env=some (la T)):za Ta e env=some (.int n):=by rw[Yl h,jp,hT.len]
theorem Tab.le{T:J0}{n:Nat}(h:Tab T n):n<=1000:=by have:=h.top;omega
theorem fU{T:J0}{n:Nat}(hT:Tab T n){env:Env}{e0 ee es eb:Ex}(k0:e0 env=some (la T)){e b:Nat}{s:Int}(he:e<n)(hb:b<n)(ke:ee env=some (.int e))(ks:es env=some (.int s))(kb:eb env=some (.int b)):Kc (Ra (Ka (Ka e0 ee) eb) es) (Ra (Ka (Ka e0 eb) ee) es) env=some (Uj T s e b):=by have e1:=Fj hT k0 ke kb (by omega) (by omega) (by omega) (by omega);have e2:=Fj hT k0 kb ke (by omega) (by omega) (by omega) (by omega);simp only[Kc,lp e1 ks,lp e2 ks,Uj];cases tg T (e:Int) (b:Int)==s<;>simp
theorem RG{T:J0}{n:Nat}(hT:Tab T n){s e:Nat}(he:e<n):dq [la T,.int s,.int e]=some ((Vj T n s e).getD .non):=by
 have i1:vb (za Ta (aa 0)) (enter 4 [la T,.int s,.int e])=some (cc 0 n):=Pg (Ad hT rfl) hT.le;have key:=xn (g:=gN 3) (b:=Za (Kc (Ra (Ka (Ka (aa 0) (aa 2)) (aa 3)) (aa 1)) (Ra (Ka (Ka (aa 0) (aa 3)) (aa 2)) (aa 1))) (Na (aa 3)) Qa)
  (λenv=>Yb [3] env (enter 4 [la T,.int s,.int e])) (λd=>if Uj T s e (intOf d)then some d else none) (cc 0 n) (enter 4 [la T,.int s,.int e]) (λd hd env hA=>by
   obtain⟨b,hb,rfl⟩:=Zf hd;refine⟨_,rfl,?_⟩;have A1:Yb [3] (env.set 3 (.sh (.int b))) (enter 4 [la T,.int s,.int e]):=hA.set (by simp) _;have v3:aa 3 (env.set 3 (.sh (.int b)))=some (.int b):=Ah (by rw[hA.len];simp[enter]);have Nh:=fU hT (env:=env.set 3 (.sh (.int b))) (e0:=aa 0) (ee:=aa 2) (es:=aa 1) (eb:=aa 3) (s:=s) (by rw[A1.var (by decide)];rfl) he hb (by rw[A1.var (by decide)];rfl) (by rw[A1.var (by decide)];rfl) v3;by_cases hq:Uj T s e (b:Int)=true
   .rw[hq]at Nh;rw[rn Nh,zf v3];simp[intOf,hq]
   .rw[G7]at hq;rw[hq]at Nh;rw[wg Nh];simp[intOf,hq,Qa,A1]) (Yb.refl _ _)
 rw[<-Vi (g:=gN 3) i1]at key;unfold Vj;cases h:(cc 0 n).findSome? λd=>if Uj T s e (intOf d)then some d else none with
 |some r=>obtain⟨e1,x⟩:=key.1 r h;exact Zd rfl (Wl x)
 |none=>obtain⟨e1,x,hA⟩:=key.2 h;exact Zd rfl ((Jc x).trans (zf rfl))
noncomputable def At(T:J0)(n:Nat)(s:Int):Option D:=(cc 0 n).findSome? λd=>if(Vj T n s (intOf d)).isSome then none else some (.tup [.str "back",d])
noncomputable def Yg(T:J0)(n:Nat):D:=match ul T n with
 |some r=>r
 |none=>match restOf T n with
  |none=>.tup [.str "rest"]
  |some r=>(At T n (intOf r)).getD .non
theorem Ct{α β:Type}{q:α->Option β}{ds:List α}{r:β}(h:ds.findSome? q=some r):∃d∈ds,q d=some r:=by
 induction ds with
 |nil=>simp at h
 |cons d ds ih=>
  rw[T6]at h;cases hq:q d with
  |some x=>rw[hq]at h;cases h;exact⟨d,W1,hq⟩
  |none=>rw[hq]at h;obtain⟨d',h1,h2⟩:=ih h;exact⟨d',M1 _ h1,h2⟩
theorem gU{T:J0}{n:Nat}{r:D}(h:ul T n=some r):∃a b c:Nat,r=.tup [.str "three",.int a,.int b,.int c]:=by
 obtain⟨da,ha,h⟩:=Ct h;obtain⟨db,hb,h⟩:=Ct h;obtain⟨dc,hc,h⟩:=Ct h;obtain⟨a,_,rfl⟩:=Zf ha;obtain⟨b,_,rfl⟩:=Zf hb;obtain⟨c,_,rfl⟩:=Zf hc;simp only[uo]at h;by_cases hq:(tg T (tg T (a:Int) (b:Int)) (c:Int)==tg T (a:Int) (tg T (b:Int) (c:Int)))=true
 .rw[Q1 hq]at h;cases h
 .rw[B2 hq]at h;cases h;exact⟨a,b,c,rfl⟩
theorem hU{T:J0}{n:Nat}{r:D}(h:restOf T n=some r):∃s:Nat,s<n/\r=.int s/\Gi T n s=true:=by
 obtain⟨d,hd,h⟩:=Ct h;obtain⟨s,hs,rfl⟩:=Zf hd;by_cases hq:Gi T n (s:Int)=true
 .simp[intOf,hq]at h;exact⟨s,hs,h.symm,hq⟩
 .simp[intOf,hq]at h
theorem SG{T:J0}{n:Nat}{s e:Int}{r:D}(h:Vj T n s e=some r):∃b:Nat,b<n/\r=.int b/\Uj T s e b=true:=by
 obtain⟨d,hd,h⟩:=Ct h;obtain⟨b,hb,rfl⟩:=Zf hd;by_cases hq:Uj T s e (b:Int)=true
 .simp[intOf,hq]at h;exact⟨b,hb,h.symm,hq⟩
 .simp[intOf,hq]at h
theorem iU{e:Ex}{env:Env}{x:D}(h:e env=some x):vk e env=some x.Ul:=by simp[vk,h]
theorem jU{e:Ex}{env:Env}{x:D}(h:e env=some x):uh e env=some (!x.Ul):=by simp[uh,h]
theorem zA{T:J0}{n:Nat}(hT:Tab T n):Wn [la T]=some (Yg T n):=by
 have s1:Sa 1 (Fa Wv [aa 0]) (enter 4 [la T])=some (.nx,[.sh (la T),.sh ((ul T n).getD .non),.un,.un]):=by rw[Wi ((Nd rfl).trans (dU hT))];rfl
 cases h3:ul T n with
 |some r=>
  rw[h3,E6]at s1;obtain⟨a,b,c,rfl⟩:=gU h3;have e:Yg T n=.tup [.str "three",.int a,.int b,.int c]:=by simp only[Yg,h3]
  rw[e];exact Zd rfl ((Jc s1).trans (Wl ((rn rfl).trans (zf rfl))))
 |none=>
  rw[h3,o7]at s1;have s2:Sa 2 (Fa Mh [aa 0]) [.sh (la T),.sh .non,.un,.un]=some (.nx,[.sh (la T),.sh .non,.sh ((restOf T n).getD .non),.un]):=by rw[Wi ((Nd rfl).trans (zt hT))];rfl
  cases h2:restOf T n with
  |none=>
   rw[h2,o7]at s2;have e:Yg T n=.tup [.str "rest"]:=by simp only[Yg,h3,h2]
   rw[e];exact Zd rfl ((Jc s1).trans ((Jc ((wg rfl).trans Th)).trans ((Jc s2).trans (Wl ((rn rfl).trans (zf rfl))))))
  |some r=>
   obtain⟨s,hs,rfl,_⟩:=hU h2;rw[h2,E6]at s2;have e:Yg T n=(At T n s).getD .non:=by simp only[Yg,h3,h2,intOf]
   rw[e];have i1:vb (za Ta (aa 0)) [.sh (la T),.sh .non,.sh (.int s),.un]=some (cc 0 n):=Pg (Ad hT rfl) hT.le;have key:=xn (g:=gN 3) (b:=Za (vk (Fa dq [aa 0,aa 2,aa 3])) (Na (vf [eC (.str "back"),aa 3])) Qa)
    (λenv=>Yb [3] env [.sh (la T),.sh .non,.sh (.int s),.un]) (λd=>if(Vj T n s (intOf d)).isSome then none else some (.tup [.str "back",d])) (cc 0 n) [.sh (la T),.sh .non,.sh (.int s),.un] (λd hd env hA=>by
     obtain⟨b,hb,rfl⟩:=Zf hd;refine⟨_,rfl,?_⟩;have A1:Yb [3] (env.set 3 (.sh (.int b))) [.sh (la T),.sh .non,.sh (.int s),.un]:=hA.set (by simp) _;have v3:aa 3 (env.set 3 (.sh (.int b)))=some (.int b):=Ah (by rw[hA.len];simp);have v0:aa 0 (env.set 3 (.sh (.int b)))=some (la T):=by rw[A1.var (by decide)];rfl
     have v2:aa 2 (env.set 3 (.sh (.int b)))=some (.int s):=by rw[A1.var (by decide)];rfl
     have Nh:=iU ((Xl v0 v2 v3).trans (RG hT hb));cases hq:Vj T n s (b:Int)with
     |none=>rw[hq]at Nh;rw[rn Nh,zf (show vf [eC (.str "back"),aa 3] _=some (.tup [.str "back",.int b]) by simp[vf,evs,eC,v3])];simp[intOf,hq]
     |some r=>obtain⟨b',_,rfl,_⟩:=SG hq;rw[hq]at Nh;rw[wg Nh];simp[intOf,hq,Qa,A1]) (Yb.refl _ _)
   rw[<-Vi (g:=gN 3) i1]at key;unfold At;cases h:(cc 0 n).findSome? λd=>if(Vj T n s (intOf d)).isSome then none else some (D.tup [.str "back",d])with
   |some r=>obtain⟨e1,x⟩:=key.1 r h;exact Zd rfl ((Jc s1).trans ((Jc ((wg rfl).trans Th)).trans ((Jc s2).trans ((Jc ((wg rfl).trans Th)).trans (Wl x)))))
   |none=>obtain⟨e1,x,hA⟩:=key.2 h;exact Zd rfl ((Jc s1).trans ((Jc ((wg rfl).trans Th)).trans ((Jc s2).trans ((Jc ((wg rfl).trans Th)).trans ((Jc x).trans (zf rfl))))))
theorem AA{T:J0}{n:Nat}(hT:Tab T n)(x:Int):Xg [la T,.int x]=some (.bl (decide (0<=x)&&decide (x<n))):=by
 refine Zd rfl (zf ?_);have h1:Ob gr (aa 1) (eC (.int 0)) (enter 2 [la T,.int x])=some (decide (0<=x)):=rfl;have h2:Ob ug (aa 1) (za Ta (aa 0)) (enter 2 [la T,.int x])=some (decide (x<n)):=by simp only[Ob,Ad hT (show aa 0 (enter 2 [la T,.int x])=some (la T)from rfl)];rfl
 simp only[eB,Kc,h1,h2];cases decide (0<=x)<;>simp
theorem UG{e:Ex}{env:Env}{xs:W0}(h:e env=some (.lst xs)):Db e env=some xs:=by simp[Db,h]
theorem BA{T:J0}{e:Ex}{env:Env}(h:e env=some (la T)):Db e env=some (T.map ma):=UG h
theorem kU{r:K0}{e:Ex}{env:Env}(h:e env=some (ma r)):Db e env=some (r.map .int):=UG h
theorem fw{T:J0}{n:Nat}(hT:Tab T n):Vn [la T]=some .non:=by
 have e:Sa 1 (za Ta (aa 0)) (enter 4 [la T])=some (.nx,[Sl.sh (la T),Sl.sh (.int n),Sl.un,Sl.un]):=by rw[Wi (Ad hT rfl)];rfl
 have t1:Nf (Ob ug (aa 1) (eC (.int 1))) (Ob Ld (aa 1) (eC (.int 12))) [Sl.sh (la T),Sl.sh (.int n),Sl.un,Sl.un]=some false:=by have h1:Ob ug (aa 1) (eC (.int 1)) [Sl.sh (la T),Sl.sh (.int n),Sl.un,Sl.un]=some (decide ((n:Int)<1)):=rfl;have h2:Ob Ld (aa 1) (eC (.int 12)) [Sl.sh (la T),Sl.sh (.int n),Sl.un,Sl.un]=some (decide (12<(n:Int))):=rfl;have p1:=hT.pos;have p2:=hT.top;rw[O2 (by omega)]at h1 h2;simp only[Nf,h1,h2]
 have key:=lr (g:=gN 2) (ds:=T.map ma) (b:=ua (Za (Cd (za Ta (aa 2)) (aa 1)) (Bi) Qa) (Za (Ye (tB (za Pf (cb 3 (Db (aa 2)) xb (Fa Xg [aa 0,aa 3]))))) (Bi) Qa))
  (λ_ env=>Yb [2] env [Sl.sh (la T),Sl.sh (.int n),Sl.un,Sl.un]) (λk d env hd hA=>by
   rw[i3]at hd;cases hr:T[k]? with
   |none=>rw[hr]at hd;cases hd
   |some r=>
    rw[hr]at hd;have Hf:ma r=d:=by simpa using hd
    subst Hf;have hm:r∈T:=V2 hr;have A1:Yb [2] (env.set 2 (.sh (ma r))) [Sl.sh (la T),Sl.sh (.int n),Sl.un,Sl.un]:=hA.set (by simp) _;have v2:aa 2 (env.set 2 (.sh (ma r)))=some (ma r):=Ah (by rw[hA.len];simp);have v1:aa 1 (env.set 2 (.sh (ma r)))=some (.int n):=by rw[A1.var (by decide)];rfl
    have v0:aa 0 (env.set 2 (.sh (ma r)))=some (la T):=by rw[A1.var (by decide)];rfl
    have t2:Cd (za Ta (aa 2)) (aa 1) (env.set 2 (.sh (ma r)))=some false:=by rw[uy (i:=r.length) (j:=n) ((Yl v2).trans (oy r)) v1,hT.row r hm];simp
    have hlen:(r.map D.int).length<=lim:=by rw[Y0,hT.row r hm,yc];have:=hT.top;omega
    have hc:=yn (i:=3) (e:=Fa Xg [aa 0,aa 3]) (env:=env.set 2 (.sh (ma r))) (λd=>.bl (decide (0<=intOf d)&&decide (intOf d<n))) (r.map .int) (λd hd=>by
     obtain⟨x,hx,rfl⟩:=U1.mp hd;refine(uc (x:=la T) (y:=.int x) ?_ ?_).trans (AA hT x)
     .rw[Dj (by decide)];exact v0
     .exact Ah (by rw[A1.len];simp))
    have t3:Ye (tB (za Pf (cb 3 (Db (aa 2)) xb (Fa Xg [aa 0,aa 3])))) (env.set 2 (.sh (ma r)))=some false:=by
     have ha:(r.map D.int).all (λd=>decide (0<=intOf d)&&decide (intOf d<(n:Int)))=true:=by rw[G3];intro d hd;obtain⟨x,hx,rfl⟩:=U1.mp hd;have:=hT.ent r hm x hx;simp[intOf,this.1,this.2]
     simp only[Ye,tB,za,cb,kU v2,hlen,M6,hc,Pf,my,ha];rfl
    refine⟨_,_,rfl,(Jc ((wg t2).trans Th)).trans ((wg t3).trans Th),A1⟩) [Sl.sh (la T),Sl.sh (.int n),Sl.un,Sl.un] (Yb.refl _ _)
 obtain⟨e1,x,_⟩:=key;rw[<-Vi (it:=Db (aa 0)) (BA (T:=T) rfl)]at x;exact Iu rfl ((Jc e).trans ((Jc ((wg t1).trans Th)).trans x))
theorem VG{T:J0}{n:Nat}(hT:Tab T n):nG [la T]=some (Yg T n):=by have s1:md (Fa Vn [aa 0]) (enter 1 [la T])=some (.nx,enter 1 [la T]):=vn ((Nd rfl).trans (fw hT));exact Zd rfl ((Jc s1).trans (zf ((Nd rfl).trans (zA hT))))
theorem WG{T:J0}(hl:T.length<=1000):ql [la T]=some (la T):=by
 have hlen:(T.map ma).length<=lim:=by rw[Y0,yc];omega
 refine Zd rfl (zf (d:=la T) ?_);have hc:=yn (i:=1) (e:=za Je (aa 1)) (env:=enter 2 [la T]) (λd=>d) (T.map ma) (λd hd=>by obtain⟨r,hr,rfl⟩:=U1.mp hd;rfl)
 simp only[cb,BA (T:=T) (show aa 0 (enter 2 [la T])=some (la T)from rfl),hlen,M6,hc,X4];rfl
noncomputable def ce(ns:K0)(k:Nat):Int:=ns.getD k 0
theorem Fg(ns:K0)(k:Nat):qe [ma ns,.int k]=some (.int (ce ns k)):=by
 have t1:Ob ug (aa 1) (za Ta (aa 0)) (enter 2 [ma ns,.int k])=some (decide ((k:Int)<ns.length)):=by have h:za Ta (aa 0) (enter 2 [ma ns,.int k])=some (.int ns.length):=(Yl (x:=ma ns) rfl).trans (oy ns);simp only[Ob,h];rfl
 by_cases hk:(k:Int)<ns.length
 .rw[K2 hk]at t1;refine Zd rfl (Wl ((rn t1).trans (zf ?_)));show Vo (ma ns) (.int k)=_;rw[Ju (by omega) hk];simp[ce]
 .rw[O2 hk]at t1;have e:ce ns k=0:=by unfold ce;rw[K1,v5 (by omega)];rfl
  rw[e];exact Zd rfl ((Jc ((wg t1).trans Th)).trans (zf rfl))
theorem fg{f:Int->Int->Option D}{a b:Ex}{env:Env}{i j:Int}(h1:a env=some (.int i))(h2:b env=some (.int j)):Ma f a b env=f i j:=by simp[Ma,h1,h2]
theorem wl{i j:Int}(h:0<j):Gb i j=some (.int (i%j)):=by unfold Gb;rw[Q1 h]
theorem CA{i j:Int}(h:0<j)(h2:j<1073741824):je i j=some (.int (i/j)):=by unfold je;rw[Q1 ⟨h,h2⟩]
theorem DA{i j:Int}(h:-18446744073709551616<i)(h2:i<18446744073709551616):Td i j=some (.int (i*j)):=by unfold Td;rw[Q1 (.inl ⟨h,h2⟩)]
theorem XG{i j:Int}(h:-18446744073709551616<j)(h2:j<18446744073709551616):Td i j=some (.int (i*j)):=by unfold Td;rw[Q1 (.inr ⟨h,h2⟩)]
theorem qq{a b:Ex}{env:Env}{i j:Int}(h1:a env=some (.int i))(h2:b env=some (.int j)):ib a b env=some (.int (i+j)):=by simp[ib,De,h1,h2,jn]
theorem lU(c:Int)(k:Nat)(bound:Int)(hk:k<=1000)(hb:0<bound)(l0:bound<=12):∃r:Int,oq [.int c,.int k,.int bound]=some (.int r)/\0<=r/\r<bound:=by
 have t1:Ra (Ma Gb (aa 0) (eC (.int 2))) (eC (.int 0)) (enter 6 [.int c,.int k,.int bound])=some (c%2==0):=
  lp ((fg (i:=c) (j:=2) rfl rfl).trans (wl (by decide))) rfl
 by_cases h2:(c%2==0)=true
 .rw[h2]at t1;have s1:Sa 3 (Ma je (aa 0) (eC (.int 2))) (enter 6 [.int c,.int k,.int bound])=some (.nx,[.sh (.int c),.sh (.int k),.sh (.int bound),.sh (.int (c/2)),.un,.un]):=by
   rw[Wi ((fg (i:=c) (j:=2) rfl rfl).trans (CA (by decide) (by decide)))];rfl
  have key:=lr (g:=gN 4) (ds:=cc 0 k) (b:=Sa 3 (Ma je (aa 3) (aa 2))) (λ_ env=>Yb [3,4] env [.sh (.int c),.sh (.int k),.sh (.int bound),.sh (.int (c/2)),.un,.un]/\∃l:Int,aa 3 env=some (.int l))
   (λj d env hd ⟨hA,l,hl⟩=>by
    have A1:Yb [3,4] (env.set 4 (.sh d)) [.sh (.int c),.sh (.int k),.sh (.int bound),.sh (.int (c/2)),.un,.un]:=hA.set (by simp) _;have v3:aa 3 (env.set 4 (.sh d))=some (.int l):=by rw[Dj (by decide)];exact hl
    have v2:aa 2 (env.set 4 (.sh d))=some (.int bound):=by rw[A1.var (by decide)];rfl
    refine⟨_,_,rfl,Wi ((fg v3 v2).trans (CA hb (by omega))),A1.set (by simp) _,_,Ah (by rw[A1.len];simp)⟩)
   [.sh (.int c),.sh (.int k),.sh (.int bound),.sh (.int (c/2)),.un,.un] ⟨Yb.refl _ _,_,rfl⟩
  obtain⟨e1,x,hA,l,hl⟩:=key;rw[<-Vi (it:=vb (aa 1)) (Pg rfl hk)]at x;have v2:aa 2 e1=some (.int bound):=by rw[hA.var (by decide)];rfl
  refine⟨l%bound,Zd rfl (Wl ((rn t1).trans ((Jc s1).trans ((Jc x).trans (zf ((fg hl v2).trans (wl hb))))))),U4 _ (by omega),K4 _ hb⟩
 .rw[G7]at h2;rw[h2]at t1;let q1:Int:=(c%2147483647+977*k+1)*48271%2147483647;have m0:=U4 c (show(2147483647:Int)≠0 by decide);have GZ:=K4 c (show(0:Int)<2147483647 by decide);have n1:0<=q1:=U4 _ (by decide);have HZ:q1<2147483647:=K4 _ (by decide);let q2:Int:=q1*q1%2147483629;have n2:0<=q2:=U4 _ (by decide);have IZ:q2<2147483629:=K4 _ (by decide);let q3:Int:=(q2+40692*(k+3))*69621%2147483647;have n3:0<=q3:=U4 _ (by decide);have s1:Sa 5 (Ma Gb (Ma Td (ib (ib (Ma Gb (aa 0) (eC (.int 2147483647))) (Ma Td (eC (.int 977)) (aa 1))) (eC (.int 1))) (eC (.int 48271))) (eC (.int 2147483647))) (enter 6 [.int c,.int k,.int bound])=
    some (.nx,[.sh (.int c),.sh (.int k),.sh (.int bound),.un,.un,.sh (.int q1)]):=by
   rw[Wi ((fg ((fg (qq (qq ((fg (i:=c) (j:=2147483647) rfl rfl).trans (wl (by decide))) ((fg (i:=977) (j:=k) rfl rfl).trans (DA (by decide) (by decide)))) rfl) rfl).trans (XG (j:=48271) (by decide) (by decide))) rfl).trans (wl (by decide)))];rfl
  have s2:Sa 5 (Ma Gb (Ma Td (aa 5) (aa 5)) (eC (.int 2147483629))) [.sh (.int c),.sh (.int k),.sh (.int bound),.un,.un,.sh (.int q1)]=
    some (.nx,[.sh (.int c),.sh (.int k),.sh (.int bound),.un,.un,.sh (.int q2)]):=by
   rw[Wi ((fg ((fg (i:=q1) (j:=q1) rfl rfl).trans (DA (by omega) (by omega))) rfl).trans (wl (by decide)))];rfl
  have s3:Sa 5 (Ma Gb (Ma Td (ib (aa 5) (Ma Td (eC (.int 40692)) (ib (aa 1) (eC (.int 3))))) (eC (.int 69621))) (eC (.int 2147483647))) [.sh (.int c),.sh (.int k),.sh (.int bound),.un,.un,.sh (.int q2)]=
    some (.nx,[.sh (.int c),.sh (.int k),.sh (.int bound),.un,.un,.sh (.int q3)]):=by
   rw[Wi ((fg ((fg (qq (i:=q2) rfl ((fg (i:=40692) rfl (qq (i:=k) (j:=3) rfl rfl)).trans (DA (by decide) (by decide)))) rfl).trans (XG (j:=69621) (by decide) (by decide))) rfl).trans (wl (by decide)))];rfl
  refine⟨q3/8%bound,Zd rfl ((Jc ((wg t1).trans Th)).trans ((Jc s1).trans ((Jc s2).trans ((Jc s3).trans (zf ((fg ((fg (i:=q3) (j:=8) rfl rfl).trans (CA (by decide) (by decide))) rfl).trans (wl hb))))))),
   U4 _ (by omega),K4 _ hb⟩
structure Oh(nm:K0)(n:Nat):Prop where
 len:nm.length=n
 nd:nm.Nodup
 bd:∀x∈nm,0<=x/\x<n
noncomputable def at1(nm:K0)(k:Int):Int:=nm.getD k.toNat 0
theorem YG{nm:K0}{k:Int}(h0:0<=k)(h1:k<nm.length):at1 nm k∈nm:=by
 have hk:k.toNat<nm.length:=by omega
 unfold at1;rw[K1,E1 hk];exact N3 hk
theorem Oh.at{nm:K0}{n:Nat}(h:Oh nm n){k:Int}(h0:0<=k)(h1:k<n):0<=at1 nm k/\at1 nm k<n:=h.bd _ (YG h0 (by rw[h.len];exact h1))
theorem Oh.inj{nm:K0}{n:Nat}(h:Oh nm n){a b:Int}(a0:0<=a)(a1:a<n)(b0:0<=b)(b1:b<n)(e:at1 nm a=at1 nm b):a=b:=by
 have hl:=h.len;have ha:a.toNat<nm.length:=by omega
 have hb:b.toNat<nm.length:=by omega
 unfold at1 at e;rw[K1,K1,E1 ha,E1 hb]at e;have:=(v7 h.nd).mp (show nm[a.toNat]=nm[b.toNat]from e);omega
theorem HA{α:Type}{x y:α}:∀{nm:List α} {j:Nat},y∈nm.insertIdx j x->y=x\/y∈nm
 |nm,0,h=>by rw[Q6]at h;exact T1.mp h
 |[],j+1,h=>by simp at h
 |z::nm,j+1,h=>by
  rw[Y4]at h;rcases T1.mp h with e|e
  .exact .inr (by rw[e];exact W1)
  .rcases HA e with e|e
   .exact .inl e
   .exact .inr (M1 _ e)
theorem ZG{α β:Type}(f:α->β)(x:α):∀(nm:List α) (j:Nat),(nm.insertIdx j x).map f=(nm.map f).insertIdx j (f x)
 |nm,0=>by simp
 |[],j+1=>by simp
 |z::nm,j+1=>by simp only[Y4,V1,ZG f x nm j]
theorem aH{x:Int}:∀{nm:K0} {j:Nat},nm.Nodup->x∉nm->(nm.insertIdx j x).Nodup
 |nm,0,h,hx=>by rw[Q6];exact T2.mpr ⟨hx,h⟩
 |[],j+1,h,hx=>by simp
 |y::nm,j+1,h,hx=>by
  rw[Y4];obtain⟨h1,h2⟩:=T2.mp h;refine T2.mpr ⟨λhm=>?_,aH h2 λz=>hx (M1 _ z)⟩;rcases HA hm with e|e
  .exact hx (by rw[<-e];exact W1)
  .exact h1 e
noncomputable def yd(T:J0):List W0:=T.map λr=>r.map .int
theorem IA:∀T:J0,Xo (T.map ma)=some (yd T)
 |[]=>rfl
 |r::T=>by simp only[V1,ma,Xo];rw[IA T];rfl
theorem bH(T:J0):D.lst ((yd T).map .lst)=la T:=by simp only[yd,la,i4];rfl
noncomputable def Dm(T:J0)(i j v:Int):J0:=T.set i.toNat ((T.getD i.toNat []).set j.toNat v)
theorem Tab.Dm{T:J0}{n:Nat}(h:Tab T n){i j v:Int}(i0:0<=i)(i1:i<n)(v0:0<=v)(v1:v<n):Tab (Dm T i j v) n:=by
 have hr:=h.gp i0 i1;have hm:(T.getD i.toNat [])∈T:=by
  have hk:i.toNat<T.length:=by have:=h.len;omega
  rw[K1,E1 hk];exact N3 hk
 refine⟨by unfold PV.Dm;rw[P2];exact h.len,λr bu=>?_,λr bu x hx=>?_,h.pos,h.top⟩
 .rcases g6 bu with z|z
  .exact h.row r z
  .rw[z,P2];exact hr
 .rcases g6 bu with z|z
  .exact h.ent r z x hx
  .rw[z]at hx;rcases g6 hx with y|y
   .exact h.ent _ hm x y
   .rw[y];exact⟨v0,v1⟩
theorem cH{T:J0}{n:Nat}(h:Tab T n){i j v a b:Int}(i0:0<=i)(i1:i<n)(j0:0<=j)(j1:j<n)(a0:0<=a)(a1:a<n)(b0:0<=b)(b1:b<n):tg (Dm T i j v) a b=if a=i/\b=j then v else tg T a b:=by
 have hl:=h.len;have hr:=h.gp i0 i1;unfold tg PV.Dm;simp only[K1];by_cases BJ:a=i
 .subst BJ;rw[W2 (by omega),E6];by_cases dH:b=j
  .subst dH;rw[W2 (by simpa[K1]using(show b.toNat<(T.getD a.toNat []).length by omega))];simp
  .rw[Q2 (by omega)];simp[dH]
 .rw[Q2 (by omega)];simp[BJ]
theorem mU{env:Env}{i j:Nat}{s:Sl}(h:i≠j):Ed j (env.set i s)=Ed j env:=by unfold Ed;rw[Q2 h]
theorem nU{B:J0}{n:Nat}(hB:Tab B n)(c:Int):∃(T:J0) (nm:K0),pA [la B,.int c]=some (la T)/\Tab T n/\Oh nm n/\∀a b:Int,0<=a->a<n->0<=b->b<n->tg T (at1 nm a) (at1 nm b)=at1 nm (tg B a b):=by
 have hn:=hB.top;let env0:Env:=[.sh (la B),.sh (.int c),.ow [],.un,.un,.un,.un,.un]
 have s1:mf 2 (Xa []) (enter 8 [la B,.int c])=some (.nx,env0):=rfl;have key:=lr (g:=gN 3) (ds:=cc 0 n) (b:=Yo 2 (Ma Gb (Fa oq [aa 1,aa 3,eC (.int 12)]) (ib (aa 3) (eC (.int 1)))) (aa 3))
  (λk env=>Yb [2,3] env env0/\∃nm:K0,env[2]?=some (.ow (nm.map .int))/\Oh nm k) (λk d env hd ⟨hA,nm,hv,hp⟩=>by
   have hk:k<n:=by have:=(P1.mp hd).1;rwa [Og]at this
   rw[Ej hk]at hd;obtain rfl:D.int k=d:=by simpa using hd
   have A1:Yb [2,3] (env.set 3 (.sh (.int k))) env0:=hA.set (by simp) _;have v3:aa 3 (env.set 3 (.sh (.int k)))=some (.int k):=Ah (by rw[hA.len];simp[env0]);have v1:aa 1 (env.set 3 (.sh (.int k)))=some (.int c):=by rw[A1.var (by decide)];rfl
   obtain⟨r,hr,r0,r1⟩:=lU c k 12 (by omega) (by decide) (by decide);have ea:Ma Gb (Fa oq [aa 1,aa 3,eC (.int 12)]) (ib (aa 3) (eC (.int 1))) (env.set 3 (.sh (.int k)))=some (.int (r%((k:Int)+1))):=
    (fg ((Xl v1 v3 rfl).trans hr) (qq v3 rfl)).trans (wl (by omega))
   have p0:=U4 r (show((k:Int)+1)≠0 by omega);have p1:=K4 r (show(0:Int)<(k:Int)+1 by omega);have hl:=hp.len;have w2:(env.set 3 (.sh (.int k)))[2]?=some (.ow (nm.map .int)):=by rw[Q2 (by decide)];exact hv
   have hs:Yo 2 (Ma Gb (Fa oq [aa 1,aa 3,eC (.int 12)]) (ib (aa 3) (eC (.int 1)))) (aa 3) (env.set 3 (.sh (.int k)))=
     some (.nx,(env.set 3 (.sh (.int k))).set 2 (.ow ((nm.map .int).insertIdx (r%((k:Int)+1)).toNat (.int k)))):=by
    simp only[Yo,w2,ea,v3];rw[Q1 ⟨p0,by rw[Y0];omega,by rw[Y0,yc];omega⟩]
   refine⟨_,_,rfl,hs,A1.set (by simp) _,nm.insertIdx (r%((k:Int)+1)).toNat k,?_,⟨?_,?_,λx hx=>?_⟩⟩
   .rw[Hu (by rw[P2,hA.len];simp[env0]),ZG]
   .rw[List.length_insertIdx,Q1 (by omega)];omega
   .exact aH hp.nd λz=>by have:=hp.bd _ z;omega
   .rcases HA hx with e|e
    .subst e;omega
    .have:=hp.bd x e;omega) env0 ⟨Yb.refl _ _,[],rfl,⟨rfl,T8,λx hx=>by cases hx⟩⟩
 obtain⟨e1,x1,A1,nm,v2,hp⟩:=key;rw[Og]at hp;rw[<-Vi (it:=vb (za Ta (aa 0))) (Pg (Ad hB rfl) hB.le)]at x1;have l1:e1.length=8:=A1.len;have w0:aa 0 e1=some (la B):=by rw[A1.var (by decide)];rfl
 have s2:Cj 4 (cb 5 (Db (aa 0)) xb (za Je (aa 5))) e1=some (.nx,e1.set 4 (.tab (yd B))):=by
  have hlen:(B.map ma).length<=lim:=by rw[Y0,hB.len,yc];omega
  have hc:=yn (i:=5) (e:=za Je (aa 5)) (env:=e1) (λd=>d) (B.map ma) (λd hd=>by obtain⟨r,hr,rfl⟩:=U1.mp hd;rw[Yl (Ah (by rw[l1];decide))];rfl)
  rw[X4]at hc;simp only[Cj,cb,BA w0,hlen,M6,hc,IA]
 let e2:=e1.set 4 (.tab (yd B));have l2:e2.length=8:=by show(e1.set 4 _).length=8;rw[P2];exact l1
 have z0:aa 0 e2=some (la B):=by show aa 0 (e1.set 4 _)=_;rw[Dj (by decide)];exact w0
 have z2:Ed 2 e2=some (ma nm):=by show Ed 2 (e1.set 4 _)=_;rw[mU (by decide)];unfold Ed;rw[v2];rfl
 have z4:e2[4]?=some (.tab (yd B)):=Hu (by rw[l1];decide);have JA:∀{env:Env} {e1 e2:Ex} {k:Int},e1 env=some (ma nm)->e2 env=some (.int k)->0<=k->k<n->Ka e1 e2 env=some (.int (at1 nm k)):=λ{env e1 e2 k} h1 h2 k0 k1=>by simp only[Ka,De,h1,h2];rw[Ju k0 (by rw[hp.len];exact k1)];rfl
 have turn:∀(a b:Nat) (env:Env) (T:J0),a<n->b<n->Yb [4,6,7] env e2->aa 6 env=some (.int a)->aa 7 env=some (.int b)->env[4]?=some (.tab (yd T))->Tab T n->
   Ui 4 (Ka (Ed 2) (aa 6)) (Ka (Ed 2) (aa 7)) (Ti (Ka (Ed 2) (Ka (Ka (aa 0) (aa 6)) (aa 7)))) env=some (.nx,env.set 4 (.tab (yd (Dm T (at1 nm a) (at1 nm b) (at1 nm (tg B a b)))))):=by
  intro a b env T ha hb hA k6 k7 k4 hT;have k0:aa 0 env=some (la B):=by rw[hA.var (by decide)];exact z0
  have k2:Ed 2 env=some (ma nm):=by rw[hA.sM (by decide)];exact z2
  have ea:=JA k2 k6 (by omega) (by omega);have eb:=JA k2 k7 (by omega) (by omega);have ex:=Fj hB k0 k6 k7 (by omega) (by omega) (by omega) (by omega);have bb:=hB.bound (a:=a) (b:=b) (by omega) (by omega) (by omega) (by omega);have ev:=JA k2 ex bb.1 bb.2;have pa:=hp.at (k:=a) (by omega) (by omega);have pb:=hp.at (k:=b) (by omega) (by omega);have es:Ti (Ka (Ed 2) (Ka (Ka (aa 0) (aa 6)) (aa 7))) env=some (.int (at1 nm (tg B a b))):=by simp only[Ti,ev,xh];rfl
  have hl:=hT.len;have i1:we (yd T).length (at1 nm a)=some (at1 nm a).toNat:=by unfold we;rw[Q1 pa.1,Q1 (by rw[yd,Y0];omega)]
  have g1:(yd T)[(at1 nm a).toNat]?=some ((T.getD (at1 nm a).toNat []).map .int):=by
   have hk:(at1 nm a).toNat<T.length:=by omega
   rw[yd,i3,E1 hk,K1,E1 hk];rfl
  have rl:=hT.gp pa.1 pa.2;have i2:we ((T.getD (at1 nm a).toNat []).map D.int).length (at1 nm b)=some (at1 nm b).toNat:=by unfold we;rw[Q1 pb.1,Q1 (by rw[Y0,rl];omega)]
  simp only[Ui,k4,es,ea,eb,i1,g1,i2];congr 3;simp only[yd,PV.Dm,J9]
 have key2:=lr (g:=gN 6) (ds:=cc 0 n) (b:=yb (gN 7) (vb (za Ta (aa 0))) (Ui 4 (Ka (Ed 2) (aa 6)) (Ka (Ed 2) (aa 7)) (Ti (Ka (Ed 2) (Ka (Ka (aa 0) (aa 6)) (aa 7))))))
  (λk env=>Yb [4,6,7] env e2/\∃T,env[4]?=some (.tab (yd T))/\Tab T n/\∀a b:Int,0<=a->a<k->0<=b->b<n->tg T (at1 nm a) (at1 nm b)=at1 nm (tg B a b)) (λk d env hd ⟨hA,T,hv,hT,hI⟩=>by
   have hk:k<n:=by have:=(P1.mp hd).1;rwa [Og]at this
   rw[Ej hk]at hd;obtain rfl:D.int k=d:=by simpa using hd
   have A2:Yb [4,6,7] (env.set 6 (.sh (.int k))) e2:=hA.set (by simp) _;have u6:aa 6 (env.set 6 (.sh (.int k)))=some (.int k):=Ah (by rw[hA.len,l2];decide);have u0:aa 0 (env.set 6 (.sh (.int k)))=some (la B):=by rw[A2.var (by decide)];exact z0
   have inner:=lr (g:=gN 7) (ds:=cc 0 n) (b:=Ui 4 (Ka (Ed 2) (aa 6)) (Ka (Ed 2) (aa 7)) (Ti (Ka (Ed 2) (Ka (Ka (aa 0) (aa 6)) (aa 7)))))
    (λj env=>Yb [4,6,7] env e2/\aa 6 env=some (.int k)/\∃T,env[4]?=some (.tab (yd T))/\Tab T n/\(∀a b:Int,0<=a->a<k->0<=b->b<n->tg T (at1 nm a) (at1 nm b)=at1 nm (tg B a b))/\
     ∀b:Int,0<=b->b<j->tg T (at1 nm k) (at1 nm b)=at1 nm (tg B k b)) (λj d env hd ⟨hA,h6,T,hv,hT,hI,hJ⟩=>by
     have hj:j<n:=by have:=(P1.mp hd).1;rwa [Og]at this
     rw[Ej hj]at hd;obtain rfl:D.int j=d:=by simpa using hd
     have A3:Yb [4,6,7] (env.set 7 (.sh (.int j))) e2:=hA.set (by simp) _;have t7:aa 7 (env.set 7 (.sh (.int j)))=some (.int j):=Ah (by rw[hA.len,l2];decide);have t6:aa 6 (env.set 7 (.sh (.int j)))=some (.int k):=by rw[Dj (by decide)];exact h6
     have t4:(env.set 7 (.sh (.int j)))[4]?=some (.tab (yd T)):=by rw[Q2 (by decide)];exact hv
     have pk:=hp.at (k:=k) (by omega) (by omega);have pj:=hp.at (k:=j) (by omega) (by omega);have bb:=hB.bound (a:=k) (b:=j) (by omega) (by omega) (by omega) (by omega);have pv:=hp.at bb.1 bb.2;refine⟨_,_,rfl,turn k j _ T hk hj A3 t6 t7 t4 hT,A3.set (by simp) _,by rw[Dj (by decide)];exact t6,_,Hu (by rw[A3.len,l2];decide),hT.Dm pk.1 pk.2 pv.1 pv.2,λa b a0 a1 b0 b1=>?_,λb b0 b1=>?_⟩
     .have qa:=hp.at (k:=a) a0 (by omega);have qb:=hp.at (k:=b) b0 b1;rw[cH hT pk.1 pk.2 pj.1 pj.2 qa.1 qa.2 qb.1 qb.2,B2]
      .exact hI a b a0 a1 b0 b1
      .rintro⟨e,_⟩;have:=hp.inj a0 (by omega) (by omega) (by omega) e;omega
     .have qb:=hp.at (k:=b) b0 (by omega);rw[cH hT pk.1 pk.2 pj.1 pj.2 pk.1 pk.2 qb.1 qb.2];by_cases e:b=j
      .subst e;simp
      .rw[B2]
       .exact hJ b b0 (by omega)
       .rintro⟨_,e2⟩;exact e (hp.inj b0 (by omega) (by omega) (by omega) e2)) (env.set 6 (.sh (.int k))) ⟨A2,u6,T,by rw[Q2 (by decide)];exact hv,hT,hI,λb b0 b1=>by omega⟩
   obtain⟨e3,x3,oU,h6,T3,pU,qU,sU,fH⟩:=inner;rw[Og]at fH;refine⟨_,e3,rfl,(Vi (Pg (Ad hB u0) hB.le)).trans x3,oU,T3,pU,qU,λa b a0 a1 b0 b1=>?_⟩;by_cases e:a=k
   .subst e;exact fH b b0 b1
   .exact sU a b a0 (by omega) b0 b1) e2 ⟨Yb.refl _ _,B,z4,hB,λa b a0 a1 _ _=>by omega⟩
 obtain⟨e3,x3,A3,T,hv,hT,hI⟩:=key2;rw[Og]at hI;rw[<-Vi (it:=vb (za Ta (aa 0))) (Pg (Ad hB z0) hB.le)]at x3;have s3:bp 4 e3=some (.rt (la T),e3):=by simp only[bp,hv,bH]
 exact⟨T,nm,Zd rfl ((Jc s1).trans ((Jc x1).trans ((Jc s2).trans ((Jc x3).trans s3)))),hT,hp,hI⟩
theorem gH:∀{ds:W0} {xs:K0},Xd ds=some xs->ds=xs.map .int
 |[],xs,h=>by simp[Xd]at h;subst h;rfl
 |.int i::ds,xs,h=>by
  simp only[Xd]at h;cases e:Xd ds with
  |none=>rw[e]at h;cases h
  |some r=>rw[e]at h;cases h;rw[gH e];rfl
 |.non::_,_,h=>by simp[Xd]at h
 |.bl _::_,_,h=>by simp[Xd]at h
 |.str _::_,_,h=>by simp[Xd]at h
 |.lst _::_,_,h=>by simp[Xd]at h
 |.tup _::_,_,h=>by simp[Xd]at h
noncomputable def kj:W0->Option J0
 |[]=>some []
 |.lst ds::r=>match Xd ds,kj r with
  |some xs,some T=>some (xs::T)
  |_,_=>none
 |_::_=>none
theorem iH:∀{ds:W0} {T:J0},kj ds=some T->ds=T.map ma
 |[],T,h=>by simp[kj]at h;subst h;rfl
 |.lst ds::r,T,h=>by
  simp only[kj]at h;split at h
  .rename_i xs T' e1 e2;cases h;rw[gH e1,iH e2];rfl
  .cases h
 |.non::_,_,h=>by simp[kj]at h
 |.bl _::_,_,h=>by simp[kj]at h
 |.int _::_,_,h=>by simp[kj]at h
 |.str _::_,_,h=>by simp[kj]at h
 |.tup _::_,_,h=>by simp[kj]at h
noncomputable def rq:D->Option J0
 |.lst ds=>kj ds
 |_=>none
theorem tU{d:D}{T:J0}(h:rq d=some T):d=la T:=by
 cases d with
 |lst ds=>rw[iH (show kj ds=some T from h)];rfl
 |_=>cases h
noncomputable def KA(T:J0):Bool:=decide (1<=T.length)&&decide (T.length<=12)&&T.all λr=>r.length==T.length&&r.all λx=>decide (0<=x)&&decide (x<T.length)
theorem uU{T:J0}(h:KA T=true):Tab T T.length:=by simp only[KA,Z2,N2,G3,t5]at h;exact⟨rfl,λr hr=>(h.2 r hr).1,λr hr x hx=>(h.2 r hr).2 x hx,h.1.1,h.1.2⟩
noncomputable def Hi(k:Nat):J0:=((Cm [.int k]).bind rq).getD []
noncomputable def LA(k:Nat):Bool:=match Cm [.int k]with
 |some d=>match rq d with
  |some T=>KA T
  |none=>false
 |none=>false
theorem vU:(List.range 24).all LA=true:=by decide +kernel
theorem jH{k:Nat}(h:k<24):Cm [.int k]=some (la (Hi k))/\Tab (Hi k) (Hi k).length:=by
 have hb:LA k=true:=G3.mp vU k (j4.mpr h);unfold LA at hb;unfold Hi;cases e:Cm [.int k]with
 |none=>rw[e]at hb;cases hb
 |some d=>
  rw[e]at hb;dsimp only at hb;cases e2:rq d with
  |none=>rw[e2]at hb;cases hb
  |some T=>rw[e2]at hb;rw[x8,e2,E6,tU e2];exact⟨rfl,uU hb⟩
theorem Ii(i:Int){n:Nat}(h:0<n):∃k:Nat,k<n/\i%(n:Int)=k:=by have h0:=U4 i (show(n:Int)≠0 by omega);have h1:=K4 i (show(0:Int)<n by omega);exact⟨(i%n).toNat,by omega,by omega⟩
theorem wU(ns:K0)(f:Nat):∃(k n:Nat) (T:J0) (nm:K0),k<24/\cw [ma ns,.int f]=some (la T)/\Tab (Hi k) n/\Tab T n/\Oh nm n/\∀a b:Int,0<=a->a<n->0<=b->b<n->tg T (at1 nm a) (at1 nm b)=at1 nm (tg (Hi k) a b):=by obtain⟨k,hk,ek⟩:=Ii (ce ns f) (show 0<24 by decide);obtain⟨eb,tb⟩:=jH hk;obtain⟨T,nm,e,hT,hp,hI⟩:=nU tb (ce ns (f+1));refine⟨k,_,T,nm,hk,Zd rfl (zf ((uc ((Nd ((fg ((uc rfl rfl).trans (Fg ns f)) rfl).trans (wl (by decide)))).trans ?_) ((uc rfl (qq (i:=f) (j:=1) rfl rfl)).trans (Fg ns (f+1)))).trans e)),tb,hT,hp,hI⟩;have:(ce ns f%24)=k:=ek;rw[this];exact eb
noncomputable def Dt:List J0:=[
 [[0]],
 [[0,1],[1,0]],
 [[0,1,2],[1,2,0],[2,0,1]],
 [[0,1,2,3],[1,2,3,0],[2,3,0,1],[3,0,1,2]],
 [[0,1,2,3],[1,0,3,2],[2,3,0,1],[3,2,1,0]],
 [[0,1,2,3,4],[1,2,3,4,0],[2,3,4,0,1],[3,4,0,1,2],[4,0,1,2,3]],
 [[0,1,2,3,4,5],[1,2,3,4,5,0],[2,3,4,5,0,1],[3,4,5,0,1,2],[4,5,0,1,2,3],[5,0,1,2,3,4]],
 [[0,1,2,3,4,5,6],[1,2,3,4,5,6,0],[2,3,4,5,6,0,1],[3,4,5,6,0,1,2],[4,5,6,0,1,2,3],[5,6,0,1,2,3,4],[6,0,1,2,3,4,5]],
 [[0,1,2,3,4,5,6,7],[1,2,3,4,5,6,7,0],[2,3,4,5,6,7,0,1],[3,4,5,6,7,0,1,2],[4,5,6,7,0,1,2,3],[5,6,7,0,1,2,3,4],[6,7,0,1,2,3,4,5],[7,0,1,2,3,4,5,6]],
 [[0,1,2,3,4,5,6,7],[1,0,3,2,5,4,7,6],[2,3,4,5,6,7,0,1],[3,2,5,4,7,6,1,0],[4,5,6,7,0,1,2,3],[5,4,7,6,1,0,3,2],[6,7,0,1,2,3,4,5],[7,6,1,0,3,2,5,4]],
 [[0,1,2,3,4,5,6,7],[1,0,3,2,5,4,7,6],[2,3,0,1,6,7,4,5],[3,2,1,0,7,6,5,4],[4,5,6,7,0,1,2,3],[5,4,7,6,1,0,3,2],[6,7,4,5,2,3,0,1],[7,6,5,4,3,2,1,0]],
 [[0,1,2,3,4,5,6,7,8],[1,2,3,4,5,6,7,8,0],[2,3,4,5,6,7,8,0,1],[3,4,5,6,7,8,0,1,2],[4,5,6,7,8,0,1,2,3],[5,6,7,8,0,1,2,3,4],[6,7,8,0,1,2,3,4,5],[7,8,0,1,2,3,4,5,6],[8,0,1,2,3,4,5,6,7]],
 [[0,1,2,3,4,5,6,7,8],[1,2,0,4,5,3,7,8,6],[2,0,1,5,3,4,8,6,7],[3,4,5,6,7,8,0,1,2],[4,5,3,7,8,6,1,2,0],[5,3,4,8,6,7,2,0,1],[6,7,8,0,1,2,3,4,5],[7,8,6,1,2,0,4,5,3],[8,6,7,2,0,1,5,3,4]],
 [[0,1,2,3,4,5,6,7,8,9],[1,2,3,4,5,6,7,8,9,0],[2,3,4,5,6,7,8,9,0,1],[3,4,5,6,7,8,9,0,1,2],[4,5,6,7,8,9,0,1,2,3],[5,6,7,8,9,0,1,2,3,4],[6,7,8,9,0,1,2,3,4,5],[7,8,9,0,1,2,3,4,5,6],[8,9,0,1,2,3,4,5,6,7],[9,0,1,2,3,4,5,6,7,8]],
 [[0,1,2,3,4,5,6,7,8,9,10],[1,2,3,4,5,6,7,8,9,10,0],[2,3,4,5,6,7,8,9,10,0,1],[3,4,5,6,7,8,9,10,0,1,2],[4,5,6,7,8,9,10,0,1,2,3],[5,6,7,8,9,10,0,1,2,3,4],[6,7,8,9,10,0,1,2,3,4,5],[7,8,9,10,0,1,2,3,4,5,6],[8,9,10,0,1,2,3,4,5,6,7],[9,10,0,1,2,3,4,5,6,7,8],[10,0,1,2,3,4,5,6,7,8,9]],
 [[0,1,2,3,4,5,6,7,8,9,10,11],[1,2,3,4,5,6,7,8,9,10,11,0],[2,3,4,5,6,7,8,9,10,11,0,1],[3,4,5,6,7,8,9,10,11,0,1,2],[4,5,6,7,8,9,10,11,0,1,2,3],[5,6,7,8,9,10,11,0,1,2,3,4],[6,7,8,9,10,11,0,1,2,3,4,5],[7,8,9,10,11,0,1,2,3,4,5,6],[8,9,10,11,0,1,2,3,4,5,6,7],[9,10,11,0,1,2,3,4,5,6,7,8],[10,11,0,1,2,3,4,5,6,7,8,9],[11,0,1,2,3,4,5,6,7,8,9,10]],
 [[0,1,2,3,4,5,6,7,8,9,10,11],[1,0,3,2,5,4,7,6,9,8,11,10],[2,3,4,5,6,7,8,9,10,11,0,1],[3,2,5,4,7,6,9,8,11,10,1,0],[4,5,6,7,8,9,10,11,0,1,2,3],[5,4,7,6,9,8,11,10,1,0,3,2],[6,7,8,9,10,11,0,1,2,3,4,5],[7,6,9,8,11,10,1,0,3,2,5,4],[8,9,10,11,0,1,2,3,4,5,6,7],[9,8,11,10,1,0,3,2,5,4,7,6],[10,11,0,1,2,3,4,5,6,7,8,9],[11,10,1,0,3,2,5,4,7,6,9,8]],
 [[0,1,2,3,4,5],[1,2,0,4,5,3],[2,0,1,5,3,4],[3,5,4,0,2,1],[4,3,5,1,0,2],[5,4,3,2,1,0]],
 [[0,1,2,3,4,5,6,7],[1,2,3,0,5,6,7,4],[2,3,0,1,6,7,4,5],[3,0,1,2,7,4,5,6],[4,7,6,5,0,3,2,1],[5,4,7,6,1,0,3,2],[6,5,4,7,2,1,0,3],[7,6,5,4,3,2,1,0]],
 [[0,1,2,3,4,5,6,7,8,9],[1,2,3,4,0,6,7,8,9,5],[2,3,4,0,1,7,8,9,5,6],[3,4,0,1,2,8,9,5,6,7],[4,0,1,2,3,9,5,6,7,8],[5,9,8,7,6,0,4,3,2,1],[6,5,9,8,7,1,0,4,3,2],[7,6,5,9,8,2,1,0,4,3],[8,7,6,5,9,3,2,1,0,4],[9,8,7,6,5,4,3,2,1,0]],
 [[0,1,2,3,4,5,6,7,8,9,10,11],[1,2,3,4,5,0,7,8,9,10,11,6],[2,3,4,5,0,1,8,9,10,11,6,7],[3,4,5,0,1,2,9,10,11,6,7,8],[4,5,0,1,2,3,10,11,6,7,8,9],[5,0,1,2,3,4,11,6,7,8,9,10],[6,11,10,9,8,7,0,5,4,3,2,1],[7,6,11,10,9,8,1,0,5,4,3,2],[8,7,6,11,10,9,2,1,0,5,4,3],[9,8,7,6,11,10,3,2,1,0,5,4],[10,9,8,7,6,11,4,3,2,1,0,5],[11,10,9,8,7,6,5,4,3,2,1,0]],
 [[0,1,2,3,4,5,6,7],[1,2,3,0,5,6,7,4],[2,3,0,1,6,7,4,5],[3,0,1,2,7,4,5,6],[4,7,6,5,2,1,0,3],[5,4,7,6,3,2,1,0],[6,5,4,7,0,3,2,1],[7,6,5,4,1,0,3,2]],
 [[0,1,2,3,4,5,6,7,8,9,10,11],[1,2,3,4,5,0,7,8,9,10,11,6],[2,3,4,5,0,1,8,9,10,11,6,7],[3,4,5,0,1,2,9,10,11,6,7,8],[4,5,0,1,2,3,10,11,6,7,8,9],[5,0,1,2,3,4,11,6,7,8,9,10],[6,11,10,9,8,7,3,2,1,0,5,4],[7,6,11,10,9,8,4,3,2,1,0,5],[8,7,6,11,10,9,5,4,3,2,1,0],[9,8,7,6,11,10,0,5,4,3,2,1],[10,9,8,7,6,11,1,0,5,4,3,2],[11,10,9,8,7,6,2,1,0,5,4,3]],
 [[0,1,2,3,4,5,6,7,8,9,10,11],[1,2,0,5,3,4,7,8,6,11,9,10],[2,0,1,4,5,3,8,6,7,10,11,9],[3,6,9,0,7,10,1,4,11,2,5,8],[4,8,10,2,6,11,0,5,9,1,3,7],[5,7,11,1,8,9,2,3,10,0,4,6],[6,9,3,10,0,7,4,11,1,8,2,5],[7,11,5,9,1,8,3,10,2,6,0,4],[8,10,4,11,2,6,5,9,0,7,1,3],[9,3,6,7,10,0,11,1,4,5,8,2],[10,4,8,6,11,2,9,0,5,3,7,1],[11,5,7,8,9,1,10,2,3,4,6,0]]]
noncomputable def MA(k:Nat):Bool:=match Cm [.int k]with
 |some d=>rq d==some (Dt.getD k [])
 |none=>false
theorem xU:(List.range 24).all MA=true:=by decide +kernel
theorem kH{k:Nat}(h:k<24):Hi k=Dt.getD k []:=by
 have hb:MA k=true:=G3.mp xU k (j4.mpr h);unfold MA at hb;unfold Hi;cases e:Cm [.int k]with
 |none=>rw[e]at hb;cases hb
 |some d=>
  rw[e]at hb;have hb:rq d=some (Dt.getD k []):=by simpa using hb
  simp[hb]
structure Pa(T:J0)(n:Nat)(s:Nat):Prop where
 tab:Tab T n
 lt:s<n
 asc:∀a b c:Int,0<=a->a<n->0<=b->b<n->0<=c->c<n->tg T (tg T a b) c=tg T a (tg T b c)
 idl:∀a:Int,0<=a->a<n->tg T s a=a
 idr:∀a:Int,0<=a->a<n->tg T a s=a
 inv:∀a:Int,0<=a->a<n->∃b:Int,0<=b/\b<n/\tg T a b=s/\tg T b a=s
noncomputable def lH(T:J0)(n:Nat):Bool:=(List.range n).all λa=>(List.range n).all λb=>(List.range n).all λc=>tg T (tg T a b) c==tg T a (tg T b c)
noncomputable def mH(T:J0)(n s:Nat):Bool:=(List.range n).all λa=>tg T s a==a&&tg T a s==a
noncomputable def nH(T:J0)(n s:Nat):Bool:=(List.range n).all λa=>(List.range n).any λb=>tg T a b==s&&tg T b a==s
noncomputable def NA(T:J0):Bool:=decide (0<T.length)&&lH T T.length&&mH T T.length 0&&nH T T.length 0
theorem Wj{a:Int}{n:Nat}(h0:0<=a)(h1:a<n):∃k:Nat,k<n/\a=k:=⟨a.toNat,by omega,by omega⟩
theorem oH{T:J0}(ht:Tab T T.length)(h:NA T=true):Pa T T.length 0:=by
 simp only[NA,Z2,N2,lH,mH,nH,G3,B8,j4,t5]at h;obtain⟨⟨⟨h0,ha⟩,hi⟩,hv⟩:=h;refine⟨ht,h0,λa b c a0 a1 b0 b1 c0 c1=>?_,λa a0 a1=>?_,λa a0 a1=>?_,λa a0 a1=>?_⟩
 .obtain⟨a,a2,rfl⟩:=Wj a0 a1;obtain⟨b,b2,rfl⟩:=Wj b0 b1;obtain⟨c,c2,rfl⟩:=Wj c0 c1;exact ha a a2 b b2 c c2
 .obtain⟨a,a2,rfl⟩:=Wj a0 a1;exact(hi a a2).1
 .obtain⟨a,a2,rfl⟩:=Wj a0 a1;exact(hi a a2).2
 .obtain⟨a,a2,rfl⟩:=Wj a0 a1;obtain⟨b,hb,h1,h2⟩:=hv a a2;exact⟨b,by omega,by omega,h1,h2⟩
theorem yU:(List.range 24).all (λk=>NA (Dt.getD k []))=true:=by decide +kernel
theorem zU{k:Nat}(h:k<24):Pa (Hi k) (Hi k).length 0:=oH (jH h).2 (by
 rw[kH h];exact G3.mp yU k (j4.mpr h))
theorem Oh.onto{nm:K0}{n:Nat}(h:Oh nm n){x:Int}(x0:0<=x)(x1:x<n):∃a:Int,0<=a/\a<n/\at1 nm a=x:=by
 have sk:nm⊆(List.range n).map Int.ofNat:=λy hy=>by obtain⟨h0,h1⟩:=h.bd y hy;exact U1.mpr ⟨y.toNat,j4.mpr (by omega),by simp[Zac h0]⟩
 have Co:x∈nm:=by
  apply D5;intro hx;have gu:(x::nm).Nodup:=T2.mpr ⟨hx,h.nd⟩;have iZ:(x::nm)⊆(List.range n).map Int.ofNat:=λy hy=>by
   rcases T1.mp hy with rfl|hy
   .exact U1.mpr ⟨y.toNat,j4.mpr (by omega),by simp[Zac x0]⟩
   .exact sk hy
  have hl:=gu.length_le_of_subset iZ;simp[h.len]at hl;omega
 obtain⟨i,hi,e⟩:=List.mem_iff_getElem.mp Co;refine⟨i,by omega,by have:=h.len;omega,?_⟩;unfold at1;rw[K1,W3,E1 hi];exact e
theorem Pa.AU{B T:J0}{n s:Nat}{nm:K0}(G:Pa B n s)(hT:Tab T n)(hp:Oh nm n)(hI:∀a b:Int,0<=a->a<n->0<=b->b<n->tg T (at1 nm a) (at1 nm b)=at1 nm (tg B a b)):∃s':Nat,(s':Int)=at1 nm s/\Pa T n s':=by
 have hs:=G.lt;obtain⟨z0,z1⟩:=hp.at (k:=s) (by omega) (by omega);obtain⟨s',qi,es⟩:=Wj z0 z1;have bd:=λ{a b:Int} a0 a1 b0 b1=>G.tab.bound (a:=a) (b:=b) a0 a1 b0 b1;refine⟨s',es.symm,hT,qi,?_,?_,?_,?_⟩
 .intro a b c a0 a1 b0 b1 c0 c1;obtain⟨a',a2,a3,rfl⟩:=hp.onto a0 a1;obtain⟨b',b2,b3,rfl⟩:=hp.onto b0 b1;obtain⟨c',c2,c3,rfl⟩:=hp.onto c0 c1;obtain⟨p0,p1⟩:=bd a2 a3 b2 b3;obtain⟨q0,q1⟩:=bd b2 b3 c2 c3;rw[hI _ _ a2 a3 b2 b3,hI _ _ p0 p1 c2 c3,hI _ _ b2 b3 c2 c3,hI _ _ a2 a3 q0 q1,G.asc _ _ _ a2 a3 b2 b3 c2 c3]
 .intro a a0 a1;obtain⟨a',a2,a3,rfl⟩:=hp.onto a0 a1;rw[<-es,hI _ _ (by omega) (by omega) a2 a3,G.idl _ a2 a3]
 .intro a a0 a1;obtain⟨a',a2,a3,rfl⟩:=hp.onto a0 a1;rw[<-es,hI _ _ a2 a3 (by omega) (by omega),G.idr _ a2 a3]
 .intro a a0 a1;obtain⟨a',a2,a3,rfl⟩:=hp.onto a0 a1;obtain⟨b,b0,b1,h1,h2⟩:=G.inv a' a2 a3;obtain⟨y0,y1⟩:=hp.at b0 b1;refine⟨at1 nm b,y0,y1,?_,?_⟩
  .rw[hI _ _ a2 a3 b0 b1,h1,es]
  .rw[hI _ _ b0 b1 a2 a3,h2,es]
theorem iw{α β:Type}{q:α->Option β}{ds:List α}(h:∀d∈ds,q d=none):ds.findSome? q=none:=Y6.mpr h
theorem BU{n:Nat}{p:Nat->Bool}{k:Nat}(hk:k<n)(hp:p k=true)(hu:∀j,j<k->p j=false){q:D->Option D}(hq:∀j:Nat,q (.int j)=if p j then some (.int j)else none):(cc 0 n).findSome? q=some (.int k):=by
 cases e:(cc 0 n).findSome? q with
 |none=>have:=Y6.mp e (.int k) (V2 (by rw[Ej hk];simp));rw[hq,Q1 hp]at this;cases this
 |some r=>
  obtain⟨l1,d,l2,h1,h2,h3⟩:=List.findSome?_eq_some_iff.mp e;have hd:d∈cc 0 n:=by rw[h1];simp
  obtain⟨j,hj,rfl⟩:=Zf hd;rw[hq]at h2;split at h2
  .rename_i zx;cases h2;rcases r8 j k with Wa|rfl|o0
   .rw[hu j Wa]at zx;cases zx
   .rfl
   .exfalso;have hl:l1.length=j:=by
     have hg:(cc 0 n)[l1.length]?=some (.int j):=by rw[h1];simp
     have Wa:l1.length<n:=by have:=p5 List.length h1;rw[Og]at this;simp at this;omega
     rw[Ej Wa]at hg;injection hg with hg;injection hg with hg;omega
    have hm:(D.int k)∈l1:=by
     have hg:(cc 0 n)[k]?=some (.int k):=by rw[Ej hk];simp
     rw[h1,B5 (by omega)]at hg;exact V2 hg
    have:=h3 _ hm;rw[hq,Q1 hp]at this;cases this
  .cases h2
noncomputable def pw(T:J0)(s e:Int):Nat->Int
 |0=>s
 |k+1=>tg T (pw T s e k) e
noncomputable def El(n:Nat)(a:Int):Prop:=0<=a/\a<n
theorem El.nat{n:Nat}{a:Int}(h:El n a):∃k:Nat,k<n/\a=k:=Wj h.1 h.2
theorem El.of{n k:Nat}(h:k<n):El n (k:Int):=⟨by omega,by omega⟩
theorem Pa.bd{T:J0}{n s:Nat}(G:Pa T n s){a b:Int}(ha:El n a)(hb:El n b):El n (tg T a b):=G.tab.bound ha.1 ha.2 hb.1 hb.2
theorem Pa.as{T:J0}{n s:Nat}(G:Pa T n s){a b c:Int}(ha:El n a)(hb:El n b)(hc:El n c):tg T (tg T a b) c=tg T a (tg T b c):=G.asc a b c ha.1 ha.2 hb.1 hb.2 hc.1 hc.2
theorem Pa.l{T:J0}{n s:Nat}(G:Pa T n s){a:Int}(ha:El n a):tg T s a=a:=G.idl a ha.1 ha.2
theorem Pa.r{T:J0}{n s:Nat}(G:Pa T n s){a:Int}(ha:El n a):tg T a s=a:=G.idr a ha.1 ha.2
theorem Pa.i{T:J0}{n s:Nat}(G:Pa T n s){a:Int}(ha:El n a):∃b,El n b/\tg T a b=s/\tg T b a=s:=by obtain⟨b,b0,b1,h1,h2⟩:=G.inv a ha.1 ha.2;exact⟨b,⟨b0,b1⟩,h1,h2⟩
theorem Pa.s{T:J0}{n s:Nat}(G:Pa T n s):El n (s:Int):=El.of G.lt
theorem Pa.cl{T:J0}{n s:Nat}(G:Pa T n s){a x y:Int}(ha:El n a)(hx:El n x)(hy:El n y)(h:tg T a x=tg T a y):x=y:=by obtain⟨b,hb,h1,h2⟩:=G.i ha;rw[<-G.l hx,<-G.l hy,<-h2,G.as hb ha hx,G.as hb ha hy,h]
theorem Pa.cr{T:J0}{n s:Nat}(G:Pa T n s){a x y:Int}(ha:El n a)(hx:El n x)(hy:El n y)(h:tg T x a=tg T y a):x=y:=by obtain⟨b,hb,h1,h2⟩:=G.i ha;rw[<-G.r hx,<-G.r hy,<-h1,<-G.as hx ha hb,<-G.as hy ha hb,h]
theorem Pa.pw{T:J0}{n s:Nat}(G:Pa T n s){e:Int}(he:El n e):∀k,El n (pw T s e k)
 |0=>G.s
 |k+1=>G.bd (G.pw he k) he
theorem Pa.CU{T:J0}{n s:Nat}(G:Pa T n s){e:Int}(he:El n e):PV.pw T s e 1=e:=G.l he
theorem Pa.pH{T:J0}{n s:Nat}(G:Pa T n s){e:Int}(he:El n e):∀k,tg T e (PV.pw T s e k)=PV.pw T s e (k+1)
 |0=>by show tg T e s=tg T s e;rw[G.r he,G.l he]
 |k+1=>by show tg T e (tg T (PV.pw T s e k) e)=tg T (PV.pw T s e (k+1)) e;rw[<-G.as he (G.pw he k) he,G.pH he k]
theorem Pa.qH{T:J0}{n s:Nat}(G:Pa T n s){e:Int}(he:El n e)(i:Nat):∀k,tg T (PV.pw T s e i) (PV.pw T s e k)=PV.pw T s e (i+k)
 |0=>G.r (G.pw he i)
 |k+1=>by show tg T (PV.pw T s e i) (tg T (PV.pw T s e k) e)=tg T (PV.pw T s e (i+k)) e;rw[<-G.as (G.pw he i) (G.pw he k) he,G.qH he i k]
structure Od(T:J0)(s e:Int)(m:Nat):Prop where
 pos:1<=m
 is:pw T s e m=s
 low:∀j,1<=j->j<m->pw T s e j≠s
theorem Pa.hole{T:J0}{n s:Nat}(G:Pa T n s){e:Int}(he:El n e):∃i j,i<j/\j<=n/\PV.pw T s e i=PV.pw T s e j:=by
 apply D5;intro Iq;have gu:((List.range (n+1)).map (PV.pw T s e)).Nodup:=by rw[List.Nodup,V5];refine Z4 (R:=(·<·)) (λ{a b} ha hb Ph heq=>Iq ⟨a,b,Ph,?_,heq⟩) Q7;have:=j4.mp hb;omega
 have sk:((List.range (n+1)).map (PV.pw T s e))⊆upto n:=λy hy=>by obtain⟨k,_,rfl⟩:=U1.mp hy;exact Ud.mpr (G.pw he k)
 have:=gu.length_le_of_subset sk;rw[Fd]at this;simp at this;omega
theorem DU{T:J0}{s e:Int}:∀m,1<=m->pw T s e m=s->∃k,k<=m/\Od T s e k:=by
 intro m;induction m using Nat.strongRecOn with
 |ind m ih=>
  intro h1 h2;by_cases hx:∃j,1<=j/\j<m/\pw T s e j=s
  .obtain⟨j,j1,j2,j3⟩:=hx;obtain⟨k,k1,k2⟩:=ih j j2 j1 j3;exact⟨k,by omega,k2⟩
  .exact⟨m,O1 _,h1,h2,λj j1 j2 j3=>hx ⟨j,j1,j2,j3⟩⟩
theorem Pa.od{T:J0}{n s:Nat}(G:Pa T n s){e:Int}(he:El n e):∃m,m<=n/\Od T s e m:=by obtain⟨i,j,Ge,hj,h⟩:=G.hole he;have h':=G.qH he i (j-i);rw[show i+(j-i)=j by omega,<-h]at h';have:=G.cl (G.pw he i) (G.pw he (j-i)) G.s (by rw[h',G.r (G.pw he i)]);obtain⟨k,k1,k2⟩:=DU (j-i) (by omega) this;exact⟨k,by omega,k2⟩
theorem Od.uniq{T:J0}{s e:Int}{m k:Nat}(h:Od T s e m)(h':Od T s e k):m=k:=by
 rcases r8 m k with h1|h1|h1
 .exact absurd h.is (h'.low m h.pos h1)
 .exact h1
 .exact absurd h'.is (h.low k h'.pos h1)
noncomputable def lj(T:J0)(s e:Int)(m:Nat):K0:=(List.range m).map (pw T s e)
theorem tq{T:J0}{s e:Int}{m:Nat}:(lj T s e m).length=m:=by simp[lj]
theorem EU{T:J0}{s e:Int}{m k:Nat}(h:k<m):(lj T s e m).getD k 0=pw T s e k:=by simp[lj,h,List.getD]
theorem FU{T:J0}{s e:Int}{m:Nat}:lj T s e (m+1)=lj T s e m++[pw T s e m]:=by simp[lj,List.range_succ]
theorem Pa.three{T:J0}{n s:Nat}(G:Pa T n s):ul T n=none:=by refine iw λa ha=>iw λb hb=>iw λc hc=>?_;obtain⟨a,a1,rfl⟩:=Zf ha;obtain⟨b,b1,rfl⟩:=Zf hb;obtain⟨c,c1,rfl⟩:=Zf hc;unfold uo;dsimp only;rw[Q1 (by rw[G.asc a b c (by omega) (by omega) (by omega) (by omega) (by omega) (by omega)];simp)]
theorem rH{T:J0}{n:Nat}{e:Int}:Gi T n e=true↔∀a:Nat,a<n->tg T e a=a/\tg T a e=a:=by simp[Gi,G3]
theorem Pa.rest{T:J0}{n s:Nat}(G:Pa T n s):restOf T n=some (.int s):=by
 have hs:=G.lt;refine BU (p:=λj=>Gi T n j) hs ?_ (λj hj=>?_) λj=>rfl
 .exact rH.mpr λa ha=>⟨G.idl a (by omega) (by omega),G.idr a (by omega) (by omega)⟩
 .cases e:Gi T n j with
  |false=>rfl
  |true=>have h1:=(rH.mp e s hs).1;have h2:=G.idr j (by omega) (by omega);omega
theorem Pa.back{T:J0}{n s:Nat}(G:Pa T n s){a:Nat}(ha:a<n):∃b:Nat,b<n/\Vj T n s a=some (.int b)/\tg T a b=s/\tg T b a=s:=by
 obtain⟨b,b0,b1,h1,h2⟩:=G.inv a (by omega) (by omega);cases e:Vj T n s a with
 |none=>obtain⟨b,b2,rfl⟩:=Wj b0 b1;have:=Y6.mp e (.int b) (V2 (by rw[Ej b2];simp));simp[intOf,Uj,h1,h2]at this
 |some r=>obtain⟨c,c1,rfl,hc⟩:=SG e;simp[Uj]at hc;exact⟨c,c1,rfl,hc.1,hc.2⟩
theorem Pa.sH{T:J0}{n s:Nat}(G:Pa T n s):Yg T n=.non:=by
 unfold Yg;rw[G.three,G.rest];have:At T n (intOf (.int s))=none:=iw λd hd=>by obtain⟨a,a1,rfl⟩:=Zf hd;obtain⟨b,_,e,_⟩:=G.back a1;show(if(Vj T n s a).isSome=true then none else _)=none;rw[e];rfl
 show(At T n (intOf (.int s))).getD .non=.non;rw[this];rfl
theorem Ue{T:J0}{n s:Nat}(G:Pa T n s):Ff [la T]=some .non:=by
 have s1:md (Fa Vn [aa 0]) (enter 1 [la T])=some (.nx,enter 1 [la T]):=vn ((Nd rfl).trans (fw G.tab));have t1:uh (Fa Wn [aa 0]) (enter 1 [la T])=some false:=by rw[jU ((Nd rfl).trans (zA G.tab)),G.sH];rfl
 exact Iu rfl ((Jc s1).trans ((wg t1).trans Th))
theorem Et{T:J0}{n s:Nat}(G:Pa T n s){a:Nat}(ha:a<n):Xn [la T,.int a]=some .non:=by
 have t1:Ye (tB (Fa Xg [aa 0,aa 1])) (enter 2 [la T,.int a])=some false:=by
  have h:=(uc (φ:=Xg) (a:=aa 0) (b:=aa 1) (env:=enter 2 [la T,.int a]) rfl rfl).trans (AA G.tab a);have e:(decide (0<=(a:Int))&&decide ((a:Int)<n))=true:=by simp;omega
  rw[e]at h;simp only[Ye,tB,h];rfl
 exact Iu rfl ((wg t1).trans Th)
theorem rest_eq{T:J0}{n s:Nat}(G:Pa T n s):oG [la T]=some (.int s):=by have s1:md (Fa Ff [aa 0]) (enter 1 [la T])=some (.nx,enter 1 [la T]):=vn ((Nd rfl).trans (Ue G));have h:=zt G.tab;rw[G.rest]at h;exact Zd rfl ((Jc s1).trans (zf ((Nd rfl).trans h)))
theorem back_eq{T:J0}{n s:Nat}(G:Pa T n s){a:Nat}(ha:a<n):∃b:Nat,b<n/\pG [la T,.int a]=some (.int b)/\tg T a b=s/\tg T b a=s:=by obtain⟨b,b1,e,h1,h2⟩:=G.back ha;refine⟨b,b1,?_,h1,h2⟩;have s1:md (Fa Ff [aa 0]) (enter 2 [la T,.int a])=some (.nx,enter 2 [la T,.int a]):=vn ((Nd rfl).trans (Ue G));have s2:md (Fa Xn [aa 0,aa 1]) (enter 2 [la T,.int a])=some (.nx,enter 2 [la T,.int a]):=vn ((uc rfl rfl).trans (Et G ha));have h:=zt G.tab;rw[G.rest]at h;have h':=RG G.tab (s:=s) ha;rw[e]at h';exact Zd rfl ((Jc s1).trans ((Jc s2).trans (zf ((Xl rfl ((Nd rfl).trans h) rfl).trans h'))))
theorem tH{T:J0}{n s:Nat}(G:Pa T n s){a:Int}(ha:El n a){m:Nat}(hm:m<=n)(hO:Od T s a m):iq [la T,.int a]=some (ma (lj T s a m)):=by
 have hn:=G.tab.top;refine Pd rfl ?_;refine wp_seq (Bc (Nu (Ya rfl ⟨_,(zt G.tab).trans (by rw[G.rest]),?_⟩)));refine wp_seq (sr (dD (Ya rfl ⟨_,rfl,?_⟩)));refine wp_seq (Bc (Ya rfl ?_));refine wp_seq (mD (N:=m) (λk e=>k<m/\e=[.sh (la T),.sh (.int a),.sh (.int s),.ow ((lj T s a (k+1)).map .int),.sh (.int (pw T s a (k+1)))]) (by omega) ⟨hO.pos,?_⟩ λk e ⟨hk,he⟩=>?_)
 .have:lj T s a 1=[(s:Int)]:=rfl;rw[this,G.CU ha];rfl
 .subst he;refine xp (Ha rfl (Ha rfl ⟨λh=>?_,λh=>?_⟩))
  .have h:pw T s a (k+1)≠s:=by simpa using h
   have du:k+1<m:=by
    rcases l3 (k+1) m with h1|h1
    .exact h1
    .exact absurd (by rw[show k+1=m by omega];exact hO.is) h
   refine⟨by omega,wp_seq (kD rfl (Ya rfl ⟨?_,?_⟩))⟩
   .rw[Y0,tq,yc];omega
   .refine Bc (zb.ev (Vh G.tab rfl (Ha rfl (Ha rfl ⟨G.pw ha (k+1),ha,?_⟩))));refine⟨du,?_⟩;rw[FU (m:=k+1),D3];rfl
  .have h:pw T s a (k+1)=s:=by simpa using h
   have du:k+1=m:=by
    rcases l3 (k+1) m with h1|h1
    .exact absurd h (hO.low _ (by omega) h1)
    .omega
   subst du;exact wp_seq (lD rfl (vc (Ya rfl rfl)))
theorem order_eq{T:J0}{n s:Nat}(G:Pa T n s){a:Nat}(ha:a<n){m:Nat}(hm:m<=n)(hO:Od T s a m):qG [la T,.int a]=some (.int m):=by refine Pd rfl (wp_seq (Rf (Nu (Ya rfl ⟨_,Ue G,?_⟩))));refine wp_seq (Rf (Cy (Ya rfl (Ya rfl ⟨_,Et G ha,?_⟩))));refine vc (zb.ev (gm (Xc ((uc rfl rfl).trans (tH G (El.of ha) hm hO)) ?_)));show D.int (lj T s a m).length=_;rw[tq]
theorem GU{T:J0}{n s:Nat}(G:Pa T n s){a:Nat}(ha:a<n){m:Nat}(hm:m<=n)(hO:Od T s a m)(t:Int):rG [la T,.int a,.int t]=some (.int (pw T s a (t%m).toNat)):=by
 have hp:=hO.pos;have t0:0<=t%m:=U4 _ (by omega);have t1:t%m<m:=K4 _ (by omega);refine Pd rfl (wp_seq (Rf (Nu (Ya rfl ⟨_,Ue G,?_⟩))));refine wp_seq (Rf (Cy (Ya rfl (Ya rfl ⟨_,Et G ha,?_⟩))));refine wp_seq (Bc (Ya ((uc rfl rfl).trans (tH G (El.of ha) hm hO)) ?_));refine vc (zb.ev (Bn (Xc rfl (pf (Ha rfl (gm (Xc rfl ⟨?_,⟨?_,?_⟩,?_⟩)))))))
 .rw[tq];omega
 .rw[tq];exact t0
 .rw[tq];exact t1
 .rw[tq,EU (by omega)];rfl
theorem HU{T:J0}{n s:Nat}(G:Pa T n s){e:Int}(he:El n e):T.getD e.toNat []=upto n↔e=s:=by
 have hl:=G.tab.gp he.1 he.2;constructor
 .intro h;have h1:tg T e s=s:=by
   unfold tg;rw[h];have:=G.lt;simp[upto,List.getD,this]
  rw[G.r he]at h1;exact h1
 .rintro rfl;apply C7
  .rw[hl,Fd]
  .intro k h1 h2;rw[Fd]at h2;have:=G.l (El.of h2);unfold tg at this;rw[K1 (l:=T.getD _ []),W3 k,E1 h1]at this;simp only[E6]at this;rw[this];simp[upto]
theorem IU{r:K0}(hn:r.Nodup){x:Int}(hx:x∈r){p:Int->Bool}(hp:∀y∈r,p y=true↔y=x):r.filter p=[x]:=by
 induction r with
 |nil=>simp at hx
 |cons y r ih=>
  rw[T2]at hn;by_cases hy:y=x
  .subst hy;rw[B7 ((hp y W1).mpr rfl)];congr 1;rw[K9];intro z hz jZ;have:=(hp z (M1 _ hz)).mp jZ;subst this;exact hn.1 hz
  .rw[m9 (λh=>hy ((hp y W1).mp h))];refine ih hn.2 ?_ (λz hz=>hp z (M1 _ hz));rcases T1.mp hx with rfl|h
   .exact absurd rfl hy
   .exact h
theorem uH{T:J0}{n s:Nat}(G:Pa T n s):dw [la T]=some (.int s):=by
 have hn:=G.tab.top;have hl:=G.tab.len;refine Pd rfl (vc (zb.ev (Bn (En (r:=upto n) (λx=>decide (x=s)) (λx=>x) ?_ ?_ (λx hx=>?_) (λx hx _=>?_) ?_))))
 .exact Wh (Ad G.tab rfl) (by omega)
 .rw[Fd,yc];omega
 .have hx:=Ud.mp hx;refine fD (cD (am rfl (Ha rfl ⟨⟨hx.1,by omega⟩,HM (By (am rfl ⟨n,by rw[hl],by omega,?_⟩))⟩)));simp only[HU G hx]
 .exact Ha rfl rfl
 .rw[IU (Qu n) (x:=s) (Ud.mpr G.s) (by simp)];exact Ha rfl ⟨⟨by simp,by simp⟩,rfl⟩
structure Rs(n:Nat)(r:K0):Prop where
 el:∀x∈r,El n x
 up:r.Pairwise (·<·)
theorem Rs.nd{n:Nat}{r:K0}(h:Rs n r):r.Nodup:=h.up.imp λ{x y} h e=>by omega
theorem jw{n:Nat}{r:K0}(hn:r.Nodup)(h:∀x∈r,El n x):r.length<=n:=by
 have:=hn.length_le_of_subset (l₂:=upto n) λx hx=>Ud.mpr (h x hx)
 rwa [Fd]at this
theorem Rs.len{n:Nat}{r:K0}(h:Rs n r):r.length<=n:=jw h.nd h.el
theorem vH{n:Nat}{r:K0}(h:∀x∈r,El n x):(seen r).length<=n:=jw (WC r) λx hx=>h x (XC.mp hx)
theorem kw{n:Nat}{r:K0}(h:∀x∈r,El n x):Rs n (Wc (seen r)):=⟨λx hx=>h x (qp.mp hx),yM r⟩
theorem Rs.JU{n:Nat}{r q:K0}(h:Rs n r)(k:Rs n q)(sub:∀x∈r,x∈q)(ic:q≠r):r.length<q.length:=by
 rcases l3 r.length q.length with h1|h1
 .exact h1
 .exfalso;apply ic;refine Zl k.up h.up λx=>⟨λhx=>?_,sub x⟩
  apply D5;intro Hg;have gu:(x::r).Nodup:=T2.mpr ⟨Hg,h.nd⟩;have:=gu.length_le_of_subset (l₂:=q) λy hy=>by
   rcases T1.mp hy with rfl|hy
   .exact hx
   .exact sub y hy
  simp at this;omega
noncomputable def Cls(T:J0)(r:K0):Prop:=∀a∈r,∀b∈r,tg T a b∈r
noncomputable def Gen(T:J0)(s:Int)(S:K0)(x:Int):Prop:=∀C:Int->Prop,(∀y∈S,C y)->C s->(∀a b,C a->C b->C (tg T a b))->C x
theorem Gen.of{T:J0}{s:Int}{S:K0}{x:Int}(h:x∈S):Gen T s S x:=λC h1 _ _=>h1 x h
theorem Gen.rest{T:J0}{s:Int}{S:K0}:Gen T s S s:=λC _ h _=>h
theorem Gen.mul{T:J0}{s:Int}{S:K0}{x y:Int}(h:Gen T s S x)(k:Gen T s S y):Gen T s S (tg T x y):=λC h1 h2 h3=>h3 _ _ (h C h1 h2 h3) (k C h1 h2 h3)
structure gi(T:J0)(n:Nat)(s:Int)(S r:K0):Prop where
 rs:Rs n r
 has:∀x∈S,x∈r
 rest:s∈r
 cls:Cls T r
 gen:∀x∈r,Gen T s S x
theorem gi.uniq{T:J0}{n:Nat}{s:Int}{S r q:K0}(h:gi T n s S r)(k:gi T n s S q):r=q:=
 Zl h.rs.up k.rs.up λx=>⟨λhx=>h.gen x hx (·∈q) k.has k.rest λa b ha hb=>k.cls a ha b hb,λhx=>k.gen x hx (·∈r) h.has h.rest λa b ha hb=>h.cls a ha b hb⟩
noncomputable def Em(T:J0)(r:K0):K0:=Wc (seen (r++r.flatMap λa=>r.map λb=>tg T a b))
theorem Ft{T:J0}{r:K0}{x:Int}:x∈Em T r↔x∈r\/∃a∈r,∃b∈r,tg T a b=x:=by unfold Em;rw[qp,G2,List.mem_flatMap];simp only[U1]
theorem Ht{T:J0}{r:K0}:∀q:K0,(q.flatMap λa=>r.map λb=>tg T a b).length=q.length*r.length
 |[]=>by simp
 |a::q=>by rw[Zaz,U2,Y0,Ht q,W4,Nat.succ_mul];omega
theorem wH{T:J0}{n:Nat}(hT:Tab T n){r:K0}(hr:∀x∈r,El n x):∀x∈r++r.flatMap (λa=>r.map λb=>tg T a b),El n x:=λx hx=>by
 rw[G2,List.mem_flatMap]at hx;rcases hx with hx|⟨a,ha,hx⟩
 .exact hr x hx
 .obtain⟨b,hb,rfl⟩:=U1.mp hx;have h1:=hr a ha;have h2:=hr b hb;exact hT.bound h1.1 h1.2 h2.1 h2.2
theorem xH{T:J0}{n:Nat}(hT:Tab T n){r:K0}(hr:∀x∈r,El n x)(hl:r.length<=12):Zv [la T,ma r]=some (ma (Em T r)):=by
 have hn:=hT.top;have hm:r.length*r.length<=144:=Nat.mul_le_mul hl hl;refine Pd rfl (wp_seq (IM (zM (Xc rfl ?_))));refine wp_seq (Dn (r:=r) (λk e=>∃x y,e=[.sh (la T),.sh (ma r),.ow ((r++(r.take k).flatMap λa=>r.map λb=>tg T a b).map .int),x,y]) (xg rfl) ⟨_,_,by simp;rfl⟩ (λk e x hx he=>?_) (λe he=>?_))
 .obtain⟨_,_,rfl⟩:=he;have KU:=V2 hx;have hk:=(P1.mp hx).1;refine JM (r:=r++(r.take k).flatMap λa=>r.map λb=>tg T a b) rfl (zr (r:=r) (λb=>tg T x b) (xg rfl) (by rw[yc];omega) (λb hb=>Vh hT rfl (Ha rfl (Ha rfl ⟨hr x KU,hr b hb,rfl⟩))) ⟨?_,?_⟩)
  .rw[U2,Ht,Y0,B4];have:min k r.length*r.length<=144:=E3 (Nat.mul_le_mul_right _ (Nat.min_le_right _ _)) hm;omega
  .rw[P4,hx,List.flatMap_append,<-w6];simp only[Option.toList_some,Zaz,List.flatMap_nil,d5];exact⟨_,_,rfl⟩
 .obtain⟨_,_,rfl⟩:=he;refine vc (Vb.ev (oD (Xc rfl ⟨?_,?_,?_⟩)))
  .rw[M4,U2,Ht];omega
  .rw[M4];have:=vH (wH hT hr);omega
  .rw[M4];rfl
theorem Fm{T:J0}{n s:Nat}(G:Pa T n s){S:K0}(hS:∀x∈S,El n x)(hl:S.length<=100):∃r,Tj [la T,ma S]=some (ma r)/\gi T n s S r:=by
 have hT:=G.tab;have hn:=hT.top;have he:∀x∈S++[(s:Int)],El n x:=λx hx=>by
  rcases G2.mp hx with hx|hx
  .exact hS x hx
  .simp at hx;subst hx;exact G.s
 have key:wp zG (enter 4 [la T,ma S]) (λo _=>∃r,o=.rt (ma r)/\gi T n s S r):=by
  refine wp_seq (Cn (Vb.ev (oD (Kk (Xc rfl (im (Ha (d:=s) ((Nd rfl).trans ((zt hT).trans (by rw[G.rest];rfl))) ⟨?_,?_,?_,?_⟩)))))))
  .simp;omega
  .simp;omega
  .have:=vH he;omega
  refine wp_seq (Cn (Ya ((uc rfl rfl).trans (xH hT (kw he).el (by have:=(kw he).len;omega))) ?_));refine wp_seq (mD (N:=12) (λk e=>∃r,Rs n r/\(∀x∈S,x∈r)/\(s:Int)∈r/\(∀x∈r,Gen T s S x)/\k<r.length/\e=[.sh (la T),.sh (ma S),.fr (ma r),.fr (ma (Em T r))]) (by omega) ?_ λk e he=>?_)
  .refine⟨Wc (seen (S++[(s:Int)])),kw he,λx hx=>qp.mpr (Y2 _ hx),qp.mpr (by simp),λx hx=>?_,?_,rfl⟩
   .rcases G2.mp (qp.mp hx)with hx|hx
    .exact Gen.of hx
    .simp at hx;subst hx;exact Gen.rest
   .exact j5 (qp.mpr (show(s:Int)∈S++[(s:Int)] by simp))
  .obtain⟨r,hr,hs,h0,hg,hk,rfl⟩:=he;have hw:Rs n (Em T r):=kw (wH hT hr.el);refine Fy (Xc rfl (Xc rfl ⟨λh=>⟨?_,?_⟩,λh=>?_⟩))
   .have:=hr.len;omega
   .have h:Em T r≠r:=by simpa using h
    have Wa:=hr.JU hw (λx hx=>Ft.mpr (.inl hx)) h;refine wp_seq (Cn (Ya rfl (Cn (Ya ((uc rfl rfl).trans (xH hT hw.el (by have:=hw.len;omega))) ?_))));refine⟨Em T r,hw,λx hx=>Ft.mpr (.inl (hs x hx)),Ft.mpr (.inl h0),λx hx=>?_,by omega,rfl⟩;rcases Ft.mp hx with hx|⟨a,ha,b,hb,rfl⟩
    .exact hg x hx
    .exact(hg a ha).mul (hg b hb)
   .have h:Em T r=r:=by simpa using h
    refine vc (Ya rfl ⟨r,rfl,hr,hs,h0,λa ha b hb=>?_,hg⟩);rw[<-h];exact Ft.mpr (.inr ⟨a,ha,b,hb,rfl⟩)
 obtain⟨o,e,h1,r,rfl,h2⟩:=key;exact⟨r,Zd rfl h1,h2⟩
theorem LU{T:J0}{n s:Nat}(G:Pa T n s){S:K0}(hS:∀x∈S,El n x)(hl:S.length<=100):∃r,AG [la T,ma S]=some (ma r)/\gi T n s S r:=by
 obtain⟨r,hr,hL⟩:=Fm G hS hl;refine⟨r,Pd rfl (wp_seq (Rf (Nu (Ya rfl ⟨_,Ue G,?_⟩)))),hL⟩;refine wp_seq (Dn (r:=S) (λ_ e=>∃x,e=[.sh (la T),.sh (ma S),x]) (xg rfl) ⟨_,rfl⟩ (λk e x hx he=>?_) (λe he=>?_))
 .obtain⟨_,rfl⟩:=he;obtain⟨a,ha,rfl⟩:=(hS x (V2 hx)).nat;exact Rf (Ya ((uc rfl rfl).trans (Et G ha)) ⟨_,rfl⟩)
 .obtain⟨_,rfl⟩:=he;exact vc (Ya ((uc rfl rfl).trans hr) rfl)
noncomputable def Jt(T:J0)(n:Nat)(x y:Int):Bool:=(upto n).any λa=>decide (tg T a x=tg T y a)
theorem MU{T:J0}{n:Nat}{x y:Int}:Jt T n x y=true↔∃a,El n a/\tg T a x=tg T y a:=by simp only[Jt,B8,N2];exact⟨λ⟨a,h1,h2⟩=>⟨a,Ud.mp h1,h2⟩,λ⟨a,h1,h2⟩=>⟨a,Ud.mpr h1,h2⟩⟩
noncomputable def Ve(T:J0)(n:Nat)(x:Int):K0:=(upto n).filter λy=>Jt T n x y
theorem lw(n:Nat):(upto n).Pairwise (·<·):=by unfold upto;exact ZaA _ (λa b (h:a<b)=>by simp only[P6];omega) Q7
theorem Gm{T:J0}{n:Nat}{x y:Int}:y∈Ve T n x↔El n y/\∃a,El n a/\tg T a x=tg T y a:=by rw[Ve,E2,Ud,MU];rfl
theorem uq(T:J0)(n:Nat)(x:Int):(Ve T n x).Pairwise (·<·):=(lw n).filter _
theorem Pa.mw{T:J0}{n s:Nat}(G:Pa T n s){x:Int}(hx:El n x):x∈Ve T n x:=Gm.mpr ⟨hx,s,G.s,by rw[G.l hx,G.r hx]⟩
theorem Pa.NU{T:J0}{n s:Nat}(G:Pa T n s){x y:Int}(hx:El n x)(h:y∈Ve T n x):x∈Ve T n y:=by
 obtain⟨hy,a,ha,e⟩:=Gm.mp h;obtain⟨b,hb,h1,h2⟩:=G.i ha;refine Gm.mpr ⟨hx,b,hb,?_⟩;have:tg T (tg T b y) a=tg T (tg T x b) a:=by rw[G.as hb hy ha,<-e,<-G.as hb ha hx,h2,G.l hx,G.as hx hb ha,h2,G.r hx]
 exact G.cr ha (G.bd hb hy) (G.bd hx hb) this
theorem Pa.yH{T:J0}{n s:Nat}(G:Pa T n s){x y z:Int}(hx:El n x)(h:y∈Ve T n x)(k:z∈Ve T n y):z∈Ve T n x:=by obtain⟨hy,a,ha,e⟩:=Gm.mp h;obtain⟨hz,b,hb,e2⟩:=Gm.mp k;exact Gm.mpr ⟨hz,tg T b a,G.bd hb ha,by rw[G.as hb ha hx,e,<-G.as hb hy ha,e2,G.as hz hb ha]⟩
theorem Pa.OU{T:J0}{n s:Nat}(G:Pa T n s){x y:Int}(hx:El n x)(h:y∈Ve T n x):Ve T n y=Ve T n x:=by have hy:=(Gm.mp h).1;exact Zl (uq T n y) (uq T n x) λz=>⟨λhz=>G.yH hx h hz,λhz=>G.yH hy (G.NU hx h) hz⟩
noncomputable def mj(T:J0)(n:Nat)(x:Int):Bool:=decide ((Ve T n x).getD 0 0=x)
theorem Pa.OA{T:J0}{n s:Nat}(G:Pa T n s){x:Int}(hx:El n x):0<(Ve T n x).length:=j5 (G.mw hx)
theorem qw{r:K0}(h:r.Pairwise (·<·)){y:Int}(hy:y∈r):r.getD 0 0<=y:=by
 cases r with
 |nil=>simp at hy
 |cons a r=>
  rcases T1.mp hy with rfl|hy
  .simp
  .have:=(Z3.mp h).1 y hy;simp;omega
theorem head_mem{r:K0}(h:0<r.length):r.getD 0 0∈r:=by
 cases r with
 |nil=>simp at h
 |cons a r=>simp
theorem Pa.zH{T:J0}{n s:Nat}(G:Pa T n s){x:Int}(hx:El n x):mj T n x=true↔∀y∈Ve T n x,x<=y:=by
 unfold mj;rw[N2];constructor
 .intro h y hy;rw[<-h];exact qw (uq T n x) hy
 .intro h;have h1:=h _ (head_mem (G.OA hx));have h2:=qw (uq T n x) (G.mw hx);omega
noncomputable def zl(T:J0)(n m:Nat):J0:=((upto m).filter λx=>mj T n x).map (Ve T n)
theorem AH(m:Nat):upto (m+1)=upto m++[(m:Int)]:=by simp[upto,List.range_succ]
theorem CH(T:J0)(n m:Nat):zl T n (m+1)=zl T n m++(if mj T n m then[Ve T n m]else[]):=by
 unfold zl;rw[AH,Zan,D3];by_cases h:mj T n m=true
 .simp[h]
 .simp[h]
theorem PU(T:J0)(n m:Nat):(zl T n m).length<=m:=by unfold zl;rw[Y0];have:=V4 (λx=>mj T n x) (upto m);rw[Fd]at this;exact this
theorem Pa.met{T:J0}{n s:Nat}(G:Pa T n s){m:Nat}(hm:m<n):Ve T n m∈zl T n m↔mj T n m=false:=by
 have sw:=El.of hm;unfold zl;rw[U1];constructor
 .rintro⟨x,hx,e⟩;rw[E2,Ud]at hx;have yo:El n x:=⟨hx.1.1,by omega⟩
  have hk:x∈Ve T n m:=by rw[<-e];exact G.mw yo
  cases hl:mj T n m with
  |false=>rfl
  |true=>have:=(G.zH sw).mp hl x hk;omega
 .intro h;have h0:=head_mem (G.OA sw);have h1:=qw (uq T n m) (G.mw sw);have ic:(Ve T n m).getD 0 0≠m:=by simpa[mj]using h
  obtain⟨x,ex⟩:∃x,x=(Ve T n m).getD 0 0:=⟨_,rfl⟩
  rw[<-ex]at h0 h1 ic;have yo:=(Gm.mp h0).1;have ek:=G.OU sw h0;refine⟨x,?_,ek⟩;rw[E2,Ud];refine⟨⟨yo.1,by omega⟩,(G.zH yo).mpr λy hy=>?_⟩;rw[ek]at hy;have h2:=qw (uq T n m) hy;omega
theorem QU{a b:K0}(ha:0<a.length)(hb:0<b.length)(h:a.getD 0 0<b.getD 0 0):Jb a b:=by
 cases a with
 |nil=>simp at ha
 |cons x a=>
  cases b with
  |nil=>simp at hb
  |cons y b=>simp at h;refine Jb.of ?_;simp only[Tb];rw[B2 (by omega)];exact K2 h
noncomputable def uw(T:J0)(n:Nat)(x:Int):Bool:=(upto n).all λa=>decide (tg T x a=tg T a x)
noncomputable def RU(T:J0)(n:Nat):K0:=(upto n).filter λx=>uw T n x
theorem Oh.perm{nm:K0}{n:Nat}(h:Oh nm n):nm.Perm (upto n):=by
 refine(S8 h.nd (Qu n)).mpr λx=>⟨λhx=>Ud.mpr (h.bd x hx),λhx=>?_⟩
 have:=Ud.mp hx;obtain⟨a,a0,a1,e⟩:=h.onto this.1 this.2;rw[<-e];exact YG a0 (by rw[h.len];exact a1)
theorem Oh.map{nm:K0}{n:Nat}(h:Oh nm n):(upto n).map (at1 nm)=nm:=by
 apply C7
 .rw[Y0,Fd,h.len]
 .intro i h1 h2;simp[upto,at1,List.getD,h2]
theorem SU{T:J0}{n s:Nat}(G:Pa T n s){x y:Int}(hx:El n x)(hy:El n y):iA [la T,.int x,.int y]=some (.bl (Jt T n x y)):=by have hn:=G.tab.top;refine Pd rfl (vc (MM (r:=upto n) (λa=>decide (tg T a x=tg T y a)) (Wh (Ad G.tab rfl) (by omega)) (by rw[Fd,yc];omega) (λa ha=>?_) rfl));have ha:=Ud.mp ha;exact Ou (Bf (Vh G.tab rfl (Ha rfl (Ha rfl ⟨ha,hx,Vh G.tab rfl (Ha rfl (Ha rfl ⟨hy,ha,rfl⟩))⟩))))
theorem TU{T:J0}{n s:Nat}(G:Pa T n s){x:Int}(hx:El n x):Xv [la T,.int x]=some (ma (Ve T n x)):=by have hn:=G.tab.top;refine Pd rfl (vc (Vb.ev (Br (En (r:=upto n) (λy=>Jt T n x y) (λy=>y) (Wh (Ad G.tab rfl) (by omega)) (by rw[Fd,yc];omega) (λy hy=>Jk (Ya ((Xl rfl rfl rfl).trans (SU G hx (Ud.mp hy))) ⟨_,rfl,rfl⟩)) (λy hy _=>Ha rfl rfl) ?_))));rw[X4];rfl
theorem UU{T:J0}{n s:Nat}(G:Pa T n s):sG [la T]=some (la (zl T n n)):=by
 have hn:=G.tab.top;refine Pd rfl (wp_seq (Rf (Ya ((Nd rfl).trans (Ue G)) ?_)));refine wp_seq (Ru (Ya rfl ⟨_,rfl,?_⟩));refine wp_seq (zp (n:=n) (λk e=>∃x y,e=[.sh (la T),.nw ((zl T n k).map ma),x,y]) (Pg (Ad G.tab rfl) (by omega)) ⟨_,_,rfl⟩ (λk e hk he=>?_) (λe he=>?_))
 .obtain⟨_,_,rfl⟩:=he;have Dx:=El.of hk;refine wp_seq (Cn (Ya ((uc rfl rfl).trans (TU G Dx)) ?_));refine bg (Bf (Bn (Xc rfl (Ha rfl ⟨⟨by omega,by have:=G.OA Dx;omega⟩,Ha rfl ⟨λh=>?_,λh=>?_⟩⟩))))
  .have h:mj T n k=true:=h;refine Su rfl (Ya rfl ⟨?_,?_⟩)
   .rw[Y0,yc];have:=PU T n k;omega
   .show ∃x y,_=_;rw[CH,Q1 h,D3];exact⟨_,_,rfl⟩
  .have h:mj T n k=false:=h;refine Qf ?_;show ∃x y,_=_;rw[CH,B2 (by rw[h];simp),d5];exact⟨_,_,rfl⟩
 .obtain⟨_,_,rfl⟩:=he;exact wp_seq (Iy rfl (vc (Ya rfl rfl)))
theorem VU{T:J0}{n s:Nat}(G:Pa T n s){x:Int}(hx:El n x):Yv [la T,.int x]=some (.bl (uw T n x)):=by
 have hn:=G.tab.top;refine Pd rfl (vc ?_);obtain⟨d,h1,k,rfl,h2⟩:=Ar (i:=2) (e:=eB (Ra (Ka (Ka (aa 0) (aa 1)) (aa 2)) (Ka (Ka (aa 0) (aa 2)) (aa 1)))) (env:=enter 3 [la T,.int x]) (it:=vb (za Ta (aa 0))) (P:=(·=uw T n x)) (r:=upto n) (λa=>decide (tg T x a=tg T a x)) (Wh (Ad G.tab rfl) (by omega)) (by rw[Fd,yc];omega) (λa ha=>by have ha:=Ud.mp ha;exact Ou (Bf (Vh G.tab rfl (Ha rfl (Ha rfl ⟨hx,ha,Vh G.tab rfl (Ha rfl (Ha rfl ⟨ha,hx,rfl⟩))⟩))))) rfl
 exact⟨_,h1,by subst h2;rfl⟩
theorem WU{T:J0}{n s:Nat}(G:Pa T n s):tG [la T]=some (ma (RU T n)):=by have hn:=G.tab.top;refine Pd rfl (wp_seq (Rf (Ya ((Nd rfl).trans (Ue G)) ?_)));refine vc (Vb.ev (Br (En (r:=upto n) (λy=>uw T n y) (λy=>y) (Wh (Ad G.tab rfl) (by omega)) (by rw[Fd,yc];omega) (λy hy=>Jk (Ya ((uc rfl rfl).trans (VU G (Ud.mp hy))) ⟨_,rfl,rfl⟩)) (λy hy _=>Ha rfl rfl) ?_)));rw[X4];rfl
structure Sg(T:J0)(n:Nat)(s:Int)(r:K0):Prop where
 rs:Rs n r
 rest:s∈r
 cls:Cls T r
theorem gi.sg{T:J0}{n:Nat}{s:Int}{S r:K0}(h:gi T n s S r):Sg T n s r:=⟨h.rs,h.rest,h.cls⟩
theorem Sg.least{T:J0}{n:Nat}{s:Int}{r:K0}(h:Sg T n s r):gi T n s r r:=⟨h.rs,λx hx=>hx,h.rest,h.cls,λx hx=>Gen.of hx⟩
theorem Gen.DH{T:J0}{s:Int}{S S':K0}{x:Int}(h:Gen T s S x)(k:∀y∈S,Gen T s S' y):Gen T s S' x:=λC h1 h2 h3=>h C (λy hy=>k y hy C h1 h2 h3) h2 h3
noncomputable def QA(B:J0)(n m:Nat):Bool:=(List.range n).all λa=>!m.testBit a||(List.range n).all λb=>!m.testBit b||m.testBit (tg B a b).toNat
noncomputable def RA(B:J0):Bool:=Nat.blt ((List.range (2^B.length)).filter λm=>m.testBit 0&&QA B B.length m).length 64
theorem XU:(List.range 24).all (λk=>RA (Dt.getD k []))=true:=by decide +kernel
theorem EH(p:Nat->Bool):∀n,∃m,m<2^n/\∀a,a<n->m.testBit a=p a
 |0=>⟨0,by simp,by omega⟩
 |n+1=>by
  obtain⟨m,h1,h2⟩:=EH p n;cases hp:p n with
  |false=>
   refine⟨m,by rw[q8];omega,λa ha=>?_⟩;rcases l3 a n with h|h
   .exact h2 a h
   .have:a=n:=by omega
    subst this;rw[hp];exact D9 h1
  |true=>
   refine⟨2^n+m,by rw[q8];omega,λa ha=>?_⟩;rcases l3 a n with h|h
   .rw[Nat.testBit_two_pow_add_gt h];exact h2 a h
   .have:a=n:=by omega
    subst this;rw[Nat.testBit_two_pow_add_eq,D9 h1,hp];rfl
noncomputable def vw(T:J0)(n:Nat)(s:Int):Prop:=∀P:J0,P.Nodup->(∀r∈P,Sg T n s r)->P.length<64
theorem YU(ns:K0)(f:Nat):∃(n s:Nat) (T:J0),cw [ma ns,.int f]=some (la T)/\Pa T n s/\vw T n s:=by
 obtain⟨k,n,T,nm,hk,e,tb,hT,hp,hI⟩:=wU ns f;have G:=zU hk;have hb:RA (Hi k)=true:=by rw[kH hk];exact G3.mp XU k (j4.mpr hk)
 unfold RA at hb;rw[tb.len]at G hb;obtain⟨s',es,G'⟩:=G.AU hT hp hI;refine⟨n,s',T,e,G',λP nd hP=>?_⟩;have hn:=hT.pos;obtain⟨M,hM⟩:=r9 λr:K0=>EH (λa=>decide (at1 nm a∈r)) n;have n1:(P.map M).Nodup:=by
  unfold List.Nodup;rw[V5];refine Z4 (R:=(·≠·)) (λ{r q} hr hq ic he=>ic ?_) nd;have key:∀{r q:K0},Sg T n s' r->M r=M q->∀x∈r,x∈q:=λ{r q} hr he x hx=>by have Ko:=hr.rs.el x hx;obtain⟨a,a0,a1,rfl⟩:=hp.onto Ko.1 Ko.2;obtain⟨b,Wd,rfl⟩:=Wj a0 a1;have h1:=(hM r).2 b Wd;rw[he,(hM q).2 b Wd]at h1;have:decide (at1 nm b∈r)=true:=K2 hx;rw[this]at h1;exact X2 h1
  exact Zl (hP r hr).rs.up (hP q hq).rs.up λx=>⟨key (hP r hr) he x,key (hP q hq) he.symm x⟩
 have n2:=n1.length_le_of_subset (l₂:=(List.range (2^n)).filter λm=>m.testBit 0&&QA (Hi k) n m) λm hm=>by
  obtain⟨r,hr,rfl⟩:=U1.mp hm;have hS:=hP r hr;rw[E2,Z2];refine⟨j4.mpr (hM r).1,?_,?_⟩
  .rw[(hM r).2 0 hn];refine K2 ?_;have:=hS.rest;rw[es]at this;exact this
  .unfold QA;rw[G3];intro a ha;have ha:=j4.mp ha;rw[(hM r).2 a ha];by_cases h1:at1 nm a∈r
   .rw[K2 h1];show(false||_)=true;rw[f9,G3];intro b hb;have hb:=j4.mp hb;rw[(hM r).2 b hb];by_cases h2:at1 nm b∈r
    .rw[K2 h2];show(false||_)=true;rw[f9];have h3:=hS.cls _ h1 _ h2;rw[hI a b (by omega) (by omega) (by omega) (by omega)]at h3;obtain⟨c,hc,ec⟩:=(G.bd (El.of ha) (El.of hb)).nat;rw[ec]at h3 |-;rw[W3,(hM r).2 c hc];exact K2 h3
    .rw[O2 h2];rfl
   .rw[O2 h1];rfl
 have h3:=Nat.blt_eq.mp hb;rw[Y0]at n2;omega
noncomputable def bf(r:K0):K0:=(r.length:Int)::r
theorem ZU{r q:K0}(h:bf r=bf q):r=q:=(List.cons.inj h).2
theorem FH{α β:Type}(k:β->K0)(g:α->β)(x:α):∀l:List α,Aj k (g x) (l.map g)=(Aj (λa=>k (g a)) x l).map g
 |[]=>rfl
 |y::l=>by
  simp only[V1,Aj];split
  .rw[V1,FH k g x l]
  .rfl
theorem GH{α β:Type}(k:β->K0)(g:α->β):∀l:List α,vh k (l.map g)=(vh (λa=>k (g a)) l).map g
 |[]=>rfl
 |x::l=>by simp only[V1,vh];rw[GH k g l,FH]
theorem aV(r:K0):fo [ma r]=some (.tup [.int r.length,ma r]):=by refine Pd rfl (vc (Ya ?_ rfl));have e1:za Ta (aa 0) (enter 1 [ma r])=some (.int r.length):=(gm (P:=(·=(r.length:Int))) (Xc (d:=r) rfl rfl)).eq;show vf [za Ta (aa 0),aa 0] (enter 1 [ma r])=_;simp only[vf,evs,e1];rfl
theorem HH:∀l:J0,Bj fo (l.map ma)=some (l.map λr=>(bf r,ma r))
 |[]=>rfl
 |r::l=>by rw[V1,Bj,aV,HH l];simp only[jr,ma,ints_map];rfl
theorem bV{l:J0}(He:l.length<64)(nd:l.Nodup):Qj fo (.lst (l.map ma))=some (la (vh bf l)):=by
 have e1:(l.map λr=>(bf r,ma r)).length<64/\((l.map λr=>(bf r,ma r)).map (·.1)).Nodup:=by refine⟨by rw[Y0];exact He,?_⟩;rw[i4];unfold List.Nodup;rw[V5];exact nd.imp λ{a b} h e=>h (ZU e)
 simp only[Qj,HH,Q1 e1];rw[GH (λp:K0×D=>p.1) (λr=>(bf r,ma r)) l,i4];rfl
structure IH(T:J0)(n:Nat)(s:Int)(f:J0):Prop where
 nd:f.Nodup
 sg:∀r∈f,Sg T n s r
theorem cV{T:J0}{n s:Nat}(G:Pa T n s)(few:vw T n s):∃P,CG [la T]=some (la P)/\P.Nodup/\(∀r,r∈P↔Sg T n s r)/\P.Pairwise λa b=>Jb (bf a) (bf b):=by
 have hT:=G.tab;have hn:=hT.top;obtain⟨r0,e0,L0⟩:=Fm G (S:=[]) (by simp) (by simp);have key:wp BG (enter 5 [la T]) (λo _=>∃P,o=.rt (la P)/\P.Nodup/\(∀r,r∈P↔Sg T n s r)/\P.Pairwise λa b=>Jb (bf a) (bf b)):=by
  refine wp_seq (Rf (Ya ((Nd rfl).trans (Ue G)) ?_));refine wp_seq (Ru (dD (Ya ((uc (x:=la T) (y:=ma []) rfl rfl).trans e0) ⟨_,rfl,?_⟩)));refine wp_seq (zp (n:=n) (λk e=>∃f x y z,IH T n s f/\(∀S r,Rs n S->(∀x∈S,x<(k:Int))->gi T n s S r->r∈f)/\e=[.sh (la T),.nw (f.map ma),x,y,z]) (Pg (Ad hT rfl) (by omega)) ⟨[r0],_,_,_,⟨by simp,by simp;exact L0.sg⟩,λS r hS hx hL=>?_,rfl⟩ (λk e hk he=>?_) (λe he=>?_))
  .have:S=[]:=by
    cases S with
    |nil=>rfl
    |cons a S=>have h1:=hx a (by simp);have h2:=(hS.el a (by simp)).1;omega
   subst this;simp[L0.uniq hL]
  .obtain⟨f,_,_,_,hf,hc,rfl⟩:=he;have Ig:=few f hf.nd hf.sg;refine FM (r:=f) (λj e=>∃f' y z,IH T n s f'/\(∀r∈f,r∈f')/\(∀p∈f.take j,∀r,gi T n s (p++[(k:Int)]) r->r∈f')/\e=[.sh (la T),.nw (f'.map ma),.sh (.int k),y,z]) (Hj rfl) ⟨f,_,_,hf,λr h=>h,by simp,rfl⟩ (λj e p hp he=>?_) (λe he=>?_)
   .obtain⟨f',_,_,Lo,sk,mi,rfl⟩:=he;have Ll:=hf.sg p (V2 hp);have Xe:=Ll.rs.len;have A0:=few f' Lo.nd Lo.sg;obtain⟨w,ew,Lw⟩:=Fm G (S:=p++[(k:Int)]) (λx hx=>by
     rcases G2.mp hx with hx|hx
     .exact Ll.rs.el x hx
     .simp at hx;subst hx;exact El.of hk) (by simp;omega)
    refine wp_seq (Cn (Cy (Ya rfl (Vb.ev (Kk (Xc rfl (im (Ha rfl ⟨by simp;omega,_,ew,?_⟩))))))));have nxt:∀f2:J0,(∀r∈f',r∈f2)->w∈f2->∀q∈f.take (j+1),∀r,gi T n s (q++[(k:Int)]) r->r∈f2:=λf2 h1 h2 q hq r hr=>by
     rw[P4,hp,G2]at hq;rcases hq with hq|hq
     .exact h1 r (mi q hq r hr)
     .simp at hq;subst hq;rw[hr.uniq Lw];exact h2
    refine bg (BM (Xc rfl (am rfl ⟨λh=>?_,λh=>?_⟩)))
    .have h:w∉f':=by simpa using h
     refine Su rfl (Ya rfl ⟨by rw[Y0,yc];omega,f'++[w],_,_,⟨?_,?_⟩,λr hr=>Y2 _ (sk r hr),nxt _ (λr hr=>Y2 _ hr) (by simp),by rw[D3];rfl⟩)
     .rw[K5];refine⟨Lo.nd,by simp,λa ha b hb=>?_⟩;simp at hb;subst hb;rintro rfl;exact h ha
     .intro r hr;rcases G2.mp hr with hr|hr
      .exact Lo.sg r hr
      .simp at hr;subst hr;exact Lw.sg
    .have h:w∈f':=by simpa using h
     exact Qf ⟨f',_,_,Lo,sk,nxt f' (λr hr=>hr) h,rfl⟩
   .obtain⟨f',_,_,Lo,sk,mi,rfl⟩:=he;rw[M4]at mi;refine⟨f',_,_,_,Lo,λS r hS hx hL=>?_,rfl⟩;by_cases hkS:(k:Int)∈S
    .have hS0:Rs n (S.filter λx=>decide (x<(k:Int))):=⟨λx hx=>hS.el x (E2.mp hx).1,hS.up.filter _⟩
     have hlen:=hS0.len;obtain⟨q,_,Lq⟩:=Fm G (S:=S.filter λx=>decide (x<(k:Int))) hS0.el (by omega);have hq:=hc _ q hS0 (λx hx=>by simpa using(E2.mp hx).2) Lq;obtain⟨w,_,Lw⟩:=Fm G (S:=q++[(k:Int)]) (λx hx=>by
      rcases G2.mp hx with hx|hx
      .exact Lq.rs.el x hx
      .simp at hx;subst hx;exact El.of hk) (by have:=Lq.rs.len;simp;omega)
     have:gi T n s S w:=by
      refine⟨Lw.rs,λx Hg=>?_,Lw.rest,Lw.cls,λx Hg=>(Lw.gen x Hg).DH λy hy=>?_⟩
      .rcases Int.lt_or_le x k with h1|h1
       .exact Lw.has x (Y2 _ (Lq.has x (E2.mpr ⟨Hg,by simpa using h1⟩)))
       .have:=hx x Hg;have:x=k:=by omega
        subst this;exact Lw.has _ (by simp)
      .rcases G2.mp hy with hy|hy
       .exact(Lq.gen y hy).DH λz hz=>Gen.of (E2.mp hz).1
       .simp at hy;subst hy;exact Gen.of hkS
     rw[hL.uniq this];exact mi q hq w Lw
    .exact sk r (hc S r hS (λx Hg=>by
      have:=hx x Hg;rcases Int.lt_or_le x k with h1|h1
      .exact h1
      .have:x=k:=by omega
       subst this;exact absurd Hg hkS) hL)
  .obtain⟨f,_,_,_,hf,hc,rfl⟩:=he;have Ig:=few f hf.nd hf.sg;refine vc (Ya (show za (Qj fo) (Up 1) _=_ from bV Ig hf.nd) ⟨_,rfl,(Uh _ _).nodup_iff.mpr hf.nd,λr=>?_,pr _ _⟩);rw[(Uh _ _).mem_iff];exact⟨λh=>hf.sg r h,λh=>hc r r h.rs (λx hx=>(h.rs.el x hx).2) h.least⟩
 obtain⟨o,e,h1,P,rfl,h2⟩:=key;exact⟨P,Zd rfl h1,h2⟩
theorem Sg.inv{T:J0}{n s:Nat}(G:Pa T n s){r:K0}(h:Sg T n s r){a b:Int}(ha:a∈r)(hb:El n b)(e:tg T a b=s):b∈r:=by
 have yw:=h.rs.el a ha;obtain⟨m,_,hO⟩:=G.od yw;have hp:∀j,pw T s a j∈r:=by
  intro j;induction j with
  |zero=>exact h.rest
  |succ j ih=>exact h.cls _ ih _ ha
 have h1:tg T a (pw T s a (m-1))=s:=by rw[G.pH yw,show m-1+1=m by have:=hO.pos;omega,hO.is]
 rw[G.cl yw hb (G.pw yw _) (e.trans h1.symm)];exact hp _
noncomputable def jc(T:J0)(r:K0)(x:Int):K0:=Wc (r.map λy=>tg T x y)
theorem Al{T:J0}{r:K0}{x z:Int}:z∈jc T r x↔∃y∈r,tg T x y=z:=by unfold jc;rw[(Af _).mem_iff,U1]
theorem Kt(T:J0)(r:K0)(x:Int):(jc T r x).length=r.length:=by unfold jc;rw[(Af _).length_eq,Y0]
section
variable{T:J0}{n s:Nat}{r:K0}
theorem Sg.zw(G:Pa T n s)(h:Sg T n s r){x:Int}(hx:El n x):(jc T r x).Pairwise (·<·):=by refine nr (An _) ((Af _).nodup_iff.mpr ?_);unfold List.Nodup;rw[V5];exact Z4 (R:=(·≠·)) (λ{a b} ha hb ic e=>ic (G.cl hx (h.rs.el a ha) (h.rs.el b hb) e)) h.rs.nd
theorem Sg.Aw(G:Pa T n s)(h:Sg T n s r){x z:Int}(hx:El n x)(hz:z∈jc T r x):El n z:=by obtain⟨y,hy,rfl⟩:=Al.mp hz;exact G.bd hx (h.rs.el y hy)
theorem Sg.Bw(G:Pa T n s)(h:Sg T n s r){x:Int}(hx:El n x):x∈jc T r x:=Al.mpr ⟨s,h.rest,G.r hx⟩
theorem Sg.Mt(G:Pa T n s)(h:Sg T n s r){x z:Int}(hx:El n x)(hz:z∈jc T r x):jc T r z=jc T r x:=by
 have eV:=h.Aw G hx hz;obtain⟨y,hy,rfl⟩:=Al.mp hz;have Cw:=h.rs.el y hy;refine Zl (h.zw G eV) (h.zw G hx) λw=>?_;rw[Al,Al];constructor
 .rintro⟨u,hu,rfl⟩;exact⟨tg T y u,h.cls y hy u hu,(G.as hx Cw (h.rs.el u hu)).symm⟩
 .rintro⟨u,hu,rfl⟩;obtain⟨b,hb,h1,h2⟩:=G.i Cw;have Gx:=h.inv G hy hb h1;have vq:=h.rs.el u hu;refine⟨tg T b u,h.cls b Gx u hu,?_⟩;rw[G.as hx Cw (G.bd hb vq),<-G.as Cw hb vq,h1,G.l vq]
theorem Sg.pos(h:Sg T n s r):0<r.length:=j5 h.rest
noncomputable def ji(T:J0)(r:K0)(x:Int):Bool:=decide ((jc T r x).getD 0 0=x)
theorem Sg.lead(G:Pa T n s)(h:Sg T n s r){x:Int}(hx:El n x):∃z,El n z/\ji T r z=true/\jc T r z=jc T r x:=by have h0:(jc T r x).getD 0 0∈jc T r x:=head_mem (by rw[Kt];exact h.pos);have e:=h.Mt G hx h0;exact⟨_,h.Aw G hx h0,by unfold ji;rw[e];simp,e⟩
theorem JH{x y:Int}(hx:ji T r x=true)(hy:ji T r y=true)(e:jc T r x=jc T r y):x=y:=by have h1:(jc T r x).getD 0 0=x:=X2 hx;have h2:(jc T r y).getD 0 0=y:=X2 hy;rw[<-h1,<-h2,e]
noncomputable def Oc(T:J0)(r:K0)(m:Nat):J0:=((upto m).filter λx=>ji T r x).map (jc T r)
theorem KH(T:J0)(r:K0)(m:Nat):Oc T r (m+1)=Oc T r m++(if ji T r m then[jc T r m]else[]):=by
 unfold Oc;rw[AH,Zan,D3];by_cases h:ji T r m=true
 .simp[h]
 .simp[h]
theorem LH(T:J0)(r:K0)(m:Nat):(Oc T r m).length<=m:=by unfold Oc;rw[Y0];have:=V4 (λx=>ji T r x) (upto m);rw[Fd]at this;exact this
theorem Dw{q:K0}:q∈Oc T r n↔∃x,El n x/\ji T r x=true/\jc T r x=q:=by
 unfold Oc;rw[U1];constructor
 .rintro⟨x,hx,e⟩;rw[E2,Ud]at hx;exact⟨x,hx.1,hx.2,e⟩
 .rintro⟨x,h1,h2,e⟩;exact⟨x,E2.mpr ⟨Ud.mpr h1,h2⟩,e⟩
theorem Sg.fV(G:Pa T n s)(h:Sg T n s r):(Oc T r n).Pairwise λa b=>Jb a b/\a≠b/\∀z,z∈a->z∉b:=by
 unfold Oc;rw[V5];refine Z4 (R:=(·<·)) (λ{a b} ha hb Ph=>?_) ((lw n).filter _);rw[E2,Ud]at ha hb;have ea:(jc T r a).getD 0 0=a:=X2 ha.2;have eb:(jc T r b).getD 0 0=b:=X2 hb.2;have ne:jc T r a≠jc T r b:=λe=>by have:=JH ha.2 hb.2 e;omega
 refine⟨QU (by rw[Kt];exact h.pos) (by rw[Kt];exact h.pos) (by rw[ea,eb];exact Ph),ne,λz h1 h2=>ne ?_⟩;rw[<-h.Mt G ha.1 h1,h.Mt G hb.1 h2]
theorem Sg.iV(G:Pa T n s)(h:Sg T n s r){z:Int}:z∈(Oc T r n).flatten↔El n z:=by
 rw[List.mem_flatten];constructor
 .rintro⟨q,hq,hz⟩;obtain⟨x,hx,_,rfl⟩:=Dw.mp hq;exact h.Aw G hx hz
 .intro hz;obtain⟨x,hx,hl,e⟩:=h.lead G hz;exact⟨jc T r x,Dw.mpr ⟨x,hx,hl,rfl⟩,by rw[e];exact h.Bw G hz⟩
theorem Sg.jV(G:Pa T n s)(h:Sg T n s r):(Oc T r n).flatten.Nodup:=by
 unfold List.Nodup;rw[List.pairwise_flatten];refine⟨λq hq=>?_,(h.fV G).imp λ{a b} Ph x hx y hy e=>?_⟩
 .obtain⟨x,hx,_,rfl⟩:=Dw.mp hq;exact(h.zw G hx).imp λ{a b} h=>by omega
 .subst e;exact Ph.2.2 x hx hy
theorem Sg.lV(G:Pa T n s)(h:Sg T n s r):Wc (Oc T r n).flatten=upto n:=
 Zl (nr (An _) ((Af _).nodup_iff.mpr (h.jV G))) (lw n) λz=>by rw[(Af _).mem_iff,h.iV G,Ud];exact Iff.rfl
theorem MH{c:Nat}:∀{L:J0},(∀q∈L,q.length=c)->L.flatten.length=L.length*c
 |[],_=>by simp
 |q::L,h=>by rw[u8,U2,MH λq hq=>h q (M1 _ hq),h q (by simp),W4,Nat.succ_mul];omega
theorem NH{q:K0}(hq:q∈Oc T r n):q.length=r.length:=by obtain⟨x,hx,_,rfl⟩:=Dw.mp hq;exact Kt _ _ _
theorem Sg.Ht(G:Pa T n s)(h:Sg T n s r):(Oc T r n).length*r.length=n:=by have h1:=MH (c:=r.length) (L:=Oc T r n) λq hq=>NH hq;have h2:=p5 List.length (h.lV G);rw[(Af _).length_eq,Fd]at h2;omega
theorem Sg.dvd(G:Pa T n s)(h:Sg T n s r):n%r.length=0:=by have:=h.Ht G;exact Nat.mod_eq_zero_of_dvd ⟨_,by rw[Nat.mul_comm];exact this.symm⟩
theorem OH{α:Type}{p:α->Bool}{x:α}:∀{l:List α},l.Nodup->x∈l->(∀y∈l,p y=true↔y=x)->(l.filter p).length=1
 |[],_,hx,_=>by cases hx
 |y::l,nd,hx,hp=>by
  obtain⟨h1,h2⟩:=T2.mp nd;rcases T1.mp hx with rfl|hx
  .rw[b6,Q1 ((hp x (by simp)).mpr rfl)];have:l.filter p=[]:=K9.mpr λz hz e=>h1 (by rw[<-(hp z (by simp[hz])).mp e];exact hz);rw[this];rfl
  .have ic:¬p y=true:=λe=>h1 (by rw[(hp y (by simp)).mp e];exact hx);rw[b6,B2 ic];exact OH h2 hx λz hz=>hp z (by simp[hz])
end
theorem PH{T:J0}{n s:Nat}(G:Pa T n s){r:K0}(h:Sg T n s r){x:Int}(hx:El n x):ut [la T,ma r,.int x]=some (ma (jc T r x)):=by have hn:=G.tab.top;have hl:=h.rs.len;refine Pd rfl (vc (Vb.ev (Br (Cr (zr (r:=r) (λy=>tg T x y) (xg rfl) (by rw[yc];omega) (λy hy=>?_) ⟨by rw[Y0];omega,rfl⟩)))));exact Vh G.tab rfl (Ha rfl (Ha rfl ⟨hx,h.rs.el y hy,rfl⟩))
theorem QH{T:J0}{n s:Nat}(G:Pa T n s){r:K0}(h:Sg T n s r):mq [la T,ma r]=some (la (Oc T r n)):=by
 have hn:=G.tab.top;refine Pd rfl (wp_seq (Ru (Ya rfl ⟨_,rfl,?_⟩)));refine wp_seq (zp (n:=n) (λk e=>∃x y,e=[.sh (la T),.sh (ma r),.nw ((Oc T r k).map ma),x,y]) (Pg (Ad G.tab rfl) (by omega)) ⟨_,_,rfl⟩ (λk e hk he=>?_) (λe he=>?_))
 .obtain⟨_,_,rfl⟩:=he;have Dx:=El.of hk;refine wp_seq (Cn (Ya ((Xl rfl rfl rfl).trans (PH G h Dx)) ?_));refine bg (Bf (Bn (Xc rfl (Ha rfl ⟨⟨by omega,by rw[Kt];have:=h.pos;omega⟩,Ha rfl ⟨λh=>?_,λh=>?_⟩⟩))))
  .have h:ji T r k=true:=h;refine Su rfl (Ya rfl ⟨?_,?_⟩)
   .rw[Y0,yc];have:=LH T r k;omega
   .show ∃x y,_=_;rw[KH,Q1 h,D3];exact⟨_,_,rfl⟩
  .have h:ji T r k=false:=h;refine Qf ?_;show ∃x y,_=_;rw[KH,B2 (by rw[h];simp),d5];exact⟨_,_,rfl⟩
 .obtain⟨_,_,rfl⟩:=he;exact wp_seq (Iy rfl (vc (Ya rfl rfl)))
theorem Ew{T:J0}{n s:Nat}(G:Pa T n s){r:K0}(h:Sg T n s r):tt [la T,ma r]=some .non:=by
 have hn:=G.tab.top;have hl:=h.rs.len;obtain⟨q,eq,Lq⟩:=Fm G (S:=r) h.rs.el (by omega);have e:=Lq.uniq h.least;subst e;refine Pd rfl (wp_seq (Gj (yp (Jk (Ar (r:=q) (λ_=>true) (xg rfl) (by rw[yc];omega) (λx hx=>Ya ((uc rfl rfl).trans (AA G.tab x)) ?_) ?_))) ?_))
 .have:=h.rs.el x hx;rw[K2 this.1,K2 this.2];rfl
 .rw[G3.mpr (λ_ _=>rfl)];simp
 .refine Gj (Fy (Xc ((uc rfl rfl).trans eq) (Xc rfl ?_))) ?_
  .simp
  .rfl
theorem mV{T:J0}{n s:Nat}(G:Pa T n s){r:K0}(h:Sg T n s r):DG [la T,ma r]=some (la (Oc T r n)):=
 Pd rfl (wp_seq (Rf (Ya ((Nd rfl).trans (Ue G)) (wp_seq (Rf (Ya ((uc rfl rfl).trans (Ew G h)) (vc (Ya ((uc rfl rfl).trans (QH G h)) rfl))))))))
theorem RH{a b:Ex}{env:Env}{P:J0->Prop}(h:ag a env λr=>ag b env λq=>r.length+q.length<=lim/\P (r++q)):ag (ib a b) env P:=by obtain⟨r,h1,q,h2,h3,p⟩:=h;refine⟨_,?_,p⟩;simp only[ib,De,h1,h2,la,jn,Y0];rw[Q1 h3,D3]
theorem nV{i:Nat}{it:Lx}{e:Ex}{env:Env}{P:J0->Prop}{T:J0}(F:K0->K0)(hit:it env=some (T.map ma))(hl:T.length<=lim)(he:∀x∈T,Vb e (env.set i (.sh (ma x))) (·=F x))(h:P (T.map F)):ag (cb i it xb e) env P:=
 Tu (λ_=>true) F hit hl (λ_ _=>⟨_,rfl,rfl⟩) (λx hx _=>he x hx) (by rw[d8.mpr (λ_ _=>rfl)];exact h)
noncomputable def Ch(l:K0)(m:Nat)(r:K0):Prop:=r.Pairwise (·<·)/\(∀x∈r,x∈l)/\r.length<=m
structure Fw(l:K0)(m:Nat)(f:J0):Prop where
 nd:f.Nodup
 mem:∀r,r∈f↔Ch l m r
theorem SH{α β:Type}{F:α->β}{l:List α}(nd:l.Nodup)(h:∀x∈l,∀y∈l,F x=F y->x=y):(l.map F).Nodup:=by unfold List.Nodup;rw[V5];exact Z4 (R:=(·≠·)) (λ{a b} ha hb ic e=>ic (h a ha b hb e)) nd
theorem Fw.step{l:K0}{m:Nat}{f:J0}(h:Fw l m f){z:Int}(hz:∀x∈l,x<z):Fw (l++[z]) m (f++(f.filter λr=>decide (r.length<m)).map λr=>r++[z]):=by
 have kZ:∀r∈f,z∉r:=λr hr hm=>by have:=hz z (((h.mem r).mp hr).2.1 z hm);omega
 refine⟨?_,λr=>?_⟩
 .rw[K5];refine⟨h.nd,SH (h.nd.filter _) λx _ y _ e=>List.append_cancel_right e,λa ha b hb e=>?_⟩;subst e;obtain⟨q,_,e⟩:=U1.mp hb;exact kZ a ha (by rw[<-e];simp)
 .rw[G2,U1];constructor
  .rintro(hr|⟨q,hq,rfl⟩)
   .obtain⟨h1,h2,h3⟩:=(h.mem r).mp hr;exact⟨h1,λx hx=>Y2 _ (h2 x hx),h3⟩
   .rw[E2,N2]at hq;obtain⟨h1,h2,h3⟩:=(h.mem q).mp hq.1;refine⟨?_,λx hx=>?_,by rw[U2,U5];omega⟩
    .rw[W5];refine⟨h1,by simp,λa ha b hb=>?_⟩;simp at hb;subst hb;exact hz a (h2 a ha)
    .rcases G2.mp hx with hx|hx
     .exact Y2 _ (h2 x hx)
     .exact X1 _ hx
  .rintro⟨h1,h2,h3⟩;by_cases hm:z∈r
   .right;obtain⟨a,b,rfl⟩:=List.append_of_mem hm;have hb:b=[]:=by
     cases b with
     |nil=>rfl
     |cons c b=>
      exfalso;have hc:c∈a++z::c::b:=by simp
      have g1:z<c:=by have:=(W5.mp h1).2.1;exact(Z3.mp this).1 c (by simp)
      rcases G2.mp (h2 c hc)with g|g
      .have:=hz c g;omega
      .simp at g;omega
    subst hb;have h4:=W5.mp h1;refine⟨a,E2.mpr ⟨(h.mem a).mpr ⟨h4.1,λx hx=>?_,by simp at h3;omega⟩,?_⟩,rfl⟩
    .have g1:=h4.2.2 x hx z (by simp);rcases G2.mp (h2 x (Y2 _ hx))with g|g
     .exact g
     .simp at g;omega
    .rw[N2];simp at h3;omega
   .left;refine(h.mem r).mpr ⟨h1,λx hx=>?_,h3⟩;rcases G2.mp (h2 x hx)with g|g
    .exact g
    .simp at g;subst g;exact absurd hx hm
theorem oV{l:K0}(h:l.Pairwise (·<·)){k:Nat}{z:Int}(hz:l[k]?=some z):l.take (k+1)=l.take k++[z]/\∀x∈l.take k,x<z:=by refine⟨by rw[P4,hz];rfl,λx hx=>?_⟩;obtain⟨i,hi,e⟩:=R6 hx;rw[B4]at hi;rw[Zay]at e;obtain⟨hk,e2⟩:=P1.mp hz;rw[<-e,<-e2];exact e6.mp h i k _ hk (by omega)
theorem pV{l:K0}(hl:l.Pairwise (·<·))(B0:l.length<=12)(m:Nat)(hm:m<=12):∃f,sA [ma l,.int m]=some (la f)/\f.Nodup/\f.length<=4096/\∀r,r∈f↔r.Pairwise (·<·)/\(∀x∈r,x∈l)/\r.length=m:=by
 have Us:=yc;have key:wp JG (enter 5 [ma l,.int m]) (λo _=>∃f,o=.rt (la f)/\f.Nodup/\f.length<=4096/\∀r,r∈f↔r.Pairwise (·<·)/\(∀x∈r,x∈l)/\r.length=m):=by
  refine wp_seq (Bc (Ya (d:=la [[]]) rfl ?_));refine wp_seq (Dn (r:=l) (λk e=>∃f y z,Fw (l.take k) m f/\f.length<=2^k/\e=[.sh (ma l),.sh (.int m),.sh (la f),y,z]) (xg rfl) ⟨[[]],_,_,⟨by simp,λr=>?_⟩,by simp,rfl⟩ (λk e z hz he=>?_) (λe he=>?_))
  .rw[List.take_zero,d4];constructor
   .rintro rfl;exact⟨by simp,by simp,by simp⟩
   .rintro⟨_,h2,_⟩;cases r with
    |nil=>rfl
    |cons a r=>exact absurd (h2 a (by simp)) (by simp)
  .obtain⟨f,_,_,hf,Ig,rfl⟩:=he;have hk:k<l.length:=(P1.mp hz).1;have h2:2^k<=2^11:=W9 (by decide) (by omega);have iE:2^11=2048:=rfl;obtain⟨t1,t2⟩:=oV hl hz;have qV:=V4 (λr:K0=>decide (r.length<m)) f;refine Bc (ag.ev (RH (am rfl (Tu (T:=f) (λr=>decide (r.length<m)) (λr=>r++[z]) (Hj rfl) (by omega) (λr hr=>?_) (λr hr _=>?_) ⟨?_,?_⟩))))
   .refine Ey (gm (Xc rfl (Ha rfl ?_)));rw[Bool.eq_iff_iff,N2,N2];omega
   .have:=((hf.mem r).mp hr).2.2;exact Kk (Xc rfl (im (Ha rfl ⟨by simp;omega,rfl⟩)))
   .rw[Y0];omega
   .refine⟨_,_,_,?_,?_,rfl⟩
    .rw[t1];exact hf.step t2
    .rw[U2,Y0,q8];omega
  .obtain⟨f,_,_,hf,Ig,rfl⟩:=he;rw[M4]at hf;have h2:2^l.length<=2^12:=W9 (by decide) (by omega);have JZ:2^12=4096:=rfl;have qV:=V4 (λr:K0=>decide (r.length=m)) f;refine vc (ag.ev (Tu (T:=f) (λr=>decide (r.length=m)) (λr=>r) (Hj rfl) (by omega) (λr hr=>?_) (λr hr _=>Xc rfl rfl) ⟨_,rfl,?_,?_,λr=>?_⟩))
   .refine Bf (gm (Xc rfl (Ha rfl ?_)));rw[Bool.eq_iff_iff,N2,N2];omega
   .rw[X4];exact hf.nd.filter _
   .rw[Y0];omega
   .rw[X4,E2,hf.mem,N2];constructor
    .rintro⟨⟨h1,h2,_⟩,h3⟩;exact⟨h1,h2,h3⟩
    .rintro⟨h1,h2,h3⟩;exact⟨⟨h1,h2,by omega⟩,h3⟩
 obtain⟨o,e,h1,f,rfl,h2⟩:=key;exact⟨f,Zd rfl h1,h2⟩
noncomputable def Xj(T:J0)(r:K0):Bool:=r.all λa=>r.all λb=>decide (tg T a b∈r)
theorem UA{T:J0}{r:K0}:Xj T r=true↔Cls T r:=by simp only[Xj,G3,N2];exact⟨λh a ha b hb=>h a ha b hb,λh a ha b hb=>h a ha b hb⟩
theorem rV{T:J0}{n:Nat}(hT:Tab T n){r:K0}(hr:∀x∈r,El n x):uA [la T,ma r]=some (.bl (Xj T r)):=by
 refine Pd rfl ?_;refine wp_seq (Dn (r:=r) (λk e=>∃x y,(∀a∈r.take k,∀b∈r,tg T a b∈r)/\e=[.sh (la T),.sh (ma r),x,y]) (xg rfl) ⟨_,_,by simp,rfl⟩ (λk e a ha he=>?_) (λe he=>?_))
 .obtain⟨_,_,hc,rfl⟩:=he;have CJ:=V2 ha;refine Dn (r:=r) (λj e=>∃y,(∀b∈r.take j,tg T a b∈r)/\e=[.sh (la T),.sh (ma r),.sh (.int a),y]) (xg rfl) ⟨_,by simp,rfl⟩ (λj e b hb he=>?_) (λe he=>?_)
  .obtain⟨_,Qh,rfl⟩:=he;have Gx:=V2 hb;refine bg (jD (Vh hT rfl (Ha rfl (Ha rfl ⟨hr a CJ,hr b Gx,Xc rfl ⟨λh=>?_,λh=>?_⟩⟩))))
   .have h:tg T a b∉r:=by simpa using h
    refine vc (Ya rfl ?_);show D.bl false=.bl (Xj T r);have:Xj T r=false:=by
     cases hq:Xj T r with
     |false=>rfl
     |true=>exact absurd (UA.mp hq a CJ b Gx) h
    rw[this]
   .have h:tg T a b∈r:=by simpa using h
    refine Qf ⟨_,λc oh=>?_,rfl⟩;rw[P4,hb,G2]at oh;rcases oh with oh|oh
    .exact Qh c oh
    .simp at oh;subst oh;exact h
  .obtain⟨_,Qh,rfl⟩:=he;rw[M4]at Qh;refine⟨_,_,λc oh=>?_,rfl⟩;rw[P4,ha,G2]at oh;rcases oh with oh|oh
   .exact hc c oh
   .simp at oh;subst oh;exact Qh
 .obtain⟨_,_,hc,rfl⟩:=he;rw[M4]at hc;refine vc (Ya rfl ?_);show D.bl true=.bl (Xj T r);rw[UA.mpr hc]
theorem sV{a b:Ex}{env:Env}{n:Nat}(ha:a env=some (.int 1))(hb:b env=some (.int ((n:Int)+1)))(hn:n<=1000):bn a b env=some (cc 1 n):=by have Us:=yc;unfold bn;rw[ha,hb];dsimp only;rw[Q1 (by omega),show((n:Int)+1-1).toNat=n by omega]
theorem Hm{l:K0}{x:Int}:x∈Wc l↔x∈l:=(Af l).mem_iff
theorem tV{a b:K0}(h:a.length<b.length):Jb (bf a) (bf b):=by refine Jb.of ?_;unfold bf;simp only[Tb];rw[B2 (by omega)];exact K2 (by omega)
theorem uV{n:Int}{a b:K0}(h:Jb a b):Jb (n::a) (n::b):=by unfold Jb at h |-;simp only[Tb,M6];exact h
theorem vV{T:J0}{n s:Nat}(G:Pa T n s)(few:vw T n s):∃Q,vA [la T]=some (la Q)/\Q.Nodup/\(∀r,r∈Q↔Sg T n s r)/\Q.Pairwise λa b=>Jb (bf a) (bf b):=by
 have hT:=G.tab;have hn:=hT.top;have Us:=yc;have key:wp KG (enter 8 [la T]) (λo _=>∃Q,o=.rt (la Q)/\Q.Nodup/\(∀r,r∈Q↔Sg T n s r)/\Q.Pairwise λa b=>Jb (bf a) (bf b)):=by
  refine wp_seq (Bc (Ya ((Nd rfl).trans (uH G)) ?_));refine wp_seq (Bc (Vb.ev (En (r:=upto n) (λx=>decide (x≠(s:Int))) (λx=>x) (Wh (Ad hT rfl) (by omega)) (by rw[Fd];omega) (λx hx=>xp (Ha rfl (Ha rfl rfl))) (λx hx _=>Ha rfl rfl) ?_)));rw[X4];generalize hO:(upto n).filter (λx=>decide (x≠(s:Int)))=O;have wV:O.Pairwise (·<·):=by rw[<-hO];exact(lw n).filter _
  have Nt:∀x,x∈O↔El n x/\x≠s:=λx=>by rw[<-hO,E2,Ud,N2];exact Iff.rfl
  have xV:O.length<=12:=by have:=V4 (λx=>decide (x≠(s:Int))) (upto n);rw[hO,Fd]at this;omega
  refine wp_seq (Bc (Ya (d:=la []) rfl ?_));have e2:ib (za Ta (aa 0)) (eC (.int 1)) [.sh (la T),.sh (.int s),.sh (ma O),.un,.sh (la []),.un,.un,.un]=some (.int ((n:Int)+1)):=(cm (P:=(·=(n:Int)+1)) (Ha (Ad hT rfl) (Ha rfl rfl))).eq;refine wp_seq (ur (ds:=cc 1 n) (λk e=>∃Q x y z,Q.Nodup/\(∀r,r∈Q↔Sg T n s r/\r.length<=k)/\(Q.Pairwise λa b=>Jb (bf a) (bf b))/\e=[.sh (la T),.sh (.int s),.sh (ma O),.un,.sh (la Q),x,y,z]) (sV rfl e2 (by omega)) ⟨[],_,_,_,by simp,λr=>⟨λh=>(by cases h),λh=>(by have:=h.1.pos;omega)⟩,by simp,rfl⟩ (λk d e hd he=>?_) (λe he=>?_))
  .obtain⟨Q,_,_,_,nd,mem,up,rfl⟩:=he;have hk:k<n:=by have:=(P1.mp hd).1;rwa [Og]at this
   rw[Ej hk]at hd;injection hd with hd;subst hd;have hsz:(1:Int)+(k:Nat)=((k+1:Nat):Int):=by omega
   rw[hsz];refine⟨_,rfl,?_⟩;have KZ:Q.length<64:=few Q nd λr hr=>((mem r).mp hr).1;refine bg (Bf (pf (Ha (Ad hT rfl) (Ha rfl ⟨by omega,Ha rfl ⟨λh=>?_,λh=>?_⟩⟩))))
   .obtain⟨f,ef,yV,LZ,fm⟩:=pV wV xV k (by omega);have key1:∀r∈f,∀x,x∈Wc ([(s:Int)]++r)↔x=s\/x∈r:=λr hr x=>by rw[Hm];simp
    have lZ:∀r∈f,(Wc ([(s:Int)]++r)).Pairwise (·<·):=λr hr=>by obtain⟨h1,h2,h3⟩:=(fm r).mp hr;refine nr (An _) ((Af _).nodup_iff.mpr ?_);rw[V7,T2];exact⟨λhs=>((Nt _).mp (h2 _ hs)).2 rfl,h1.imp λ{a b} h=>by omega⟩
    have Ko:∀r∈f,∀x∈Wc ([(s:Int)]++r),El n x:=λr hr x hx=>by
     rcases(key1 r hr x).mp hx with rfl|hx
     .exact G.s
     .exact((Nt x).mp (((fm r).mp hr).2.1 x hx)).1
    have zV:∀r∈f,(Wc ([(s:Int)]++r)).length=k+1:=λr hr=>by rw[(Af _).length_eq,U2,((fm r).mp hr).2.2];simp;omega
    have mZ:(f.map λr=>Wc ([(s:Int)]++r)).Nodup:=SH yV λa ha b hb e=>by
     refine Zl ((fm a).mp ha).1 ((fm b).mp hb).1 λx=>?_;have hx:x=s\/x∈a↔x=s\/x∈b:=by rw[<-key1 a ha x,<-key1 b hb x,e]
     have na:x∈a->x≠s:=λh=>((Nt x).mp (((fm a).mp ha).2.1 x h)).2;have nb:x∈b->x≠s:=λh=>((Nt x).mp (((fm b).mp hb).2.1 x h)).2;exact⟨λh=>(hx.mp (.inr h)).resolve_left (na h),λh=>(hx.mpr (.inr h)).resolve_left (nb h)⟩
    have ek:Ma Lg (aa 5) (eC (.int 1)) [.sh (la T),.sh (.int s),.sh (ma O),.un,.sh (la Q),.sh (.int ((k+1:Nat):Int)),‹Sl›,‹Sl›]=some (.int k):=by show some (D.int _)=_;congr 2;omega
    refine wp_seq (Bc (ag.ev (nV (T:=f) (λr=>Wc ([(s:Int)]++r)) (Hj ((uc rfl (zy (P:=(·=(k:Int))) (Ha rfl (Ha rfl (by omega)))).eq).trans ef)) (by omega) (λr hr=>?_) ?_)))
    .have:=((fm r).mp hr).2.2;exact Cr (Kk (im (Ha rfl (Xc rfl ⟨by simp;omega,by simp;omega,rfl⟩))))
    .have wq:∀q,q∈(f.map λr=>Wc ([(s:Int)]++r)).filter (Xj T)↔Sg T n s q/\q.length=k+1:=λq=>by
      rw[E2,U1,UA];constructor
      .rintro⟨⟨r,hr,rfl⟩,hc⟩;exact⟨⟨⟨Ko r hr,lZ r hr⟩,(key1 r hr _).mpr (.inl rfl),hc⟩,zV r hr⟩
      .rintro⟨hS,hl⟩;refine⟨⟨q.filter λx=>decide (x≠(s:Int)),(fm _).mpr ⟨hS.rs.up.filter _,λx hx=>?_,?_⟩,?_⟩,hS.cls⟩
       .rw[E2,N2]at hx;exact(Nt x).mpr ⟨hS.rs.el x hx.1,hx.2⟩
       .have h1:(q.filter λx=>decide (x=(s:Int))).length=1:=OH hS.rs.nd hS.rest λy _=>decide_eq_true_iff;have h2:∀l:K0,(l.filter λx=>decide (x=(s:Int))).length+(l.filter λx=>decide (x≠(s:Int))).length=l.length:=by
         intro l;induction l with
         |nil=>rfl
         |cons a l ih=>
          by_cases ha:a=s
          .simp[b6,ha]at ih |-;omega
          .simp[b6,ha]at ih |-;omega
        have:=h2 q;omega
       .refine Zl (nr (An _) ((Af _).nodup_iff.mpr ?_)) hS.rs.up λx=>?_
        .rw[V7,T2];exact⟨λhs=>by rw[E2,N2]at hs;exact hs.2 rfl,hS.rs.nd.filter _⟩
        .rw[Hm,V7,T1,E2,N2];constructor
         .rintro(rfl|h)
          .exact hS.rest
          .exact h.1
         .intro h;by_cases e:x=s
          .exact .inl e
          .exact .inr ⟨h,e⟩
     have TH:((f.map λr=>Wc ([(s:Int)]++r)).filter (Xj T)).Nodup:=mZ.filter _;have Ig:=few _ TH λq hq=>((wq q).mp hq).1;refine Bc (ag.ev (RH (am rfl (LM (Tu (T:=f.map λr=>Wc ([(s:Int)]++r)) (Xj T) (λr=>r) (Hj rfl) (by rw[Y0];omega) (λq hq=>?_) (λq hq _=>Xc rfl rfl) ⟨?_,?_,?_⟩)))))
     .obtain⟨r,hr,rfl⟩:=U1.mp hq;exact Jk (Ya ((uc rfl rfl).trans (rV hT (Ko r hr))) ⟨_,rfl,rfl⟩)
     .rw[X4];exact Ig
     .rw[X4,(Uh _ _).length_eq];omega
     .rw[X4];refine⟨_,_,_,_,?_,λr=>?_,?_,rfl⟩
      .rw[K5];refine⟨nd,(Uh _ _).nodup_iff.mpr TH,λa ha b hb e=>?_⟩;subst e;have h1:=((mem a).mp ha).2;have h2:=((wq a).mp ((Uh _ _).mem_iff.mp hb)).2;omega
      .rw[G2,mem,(Uh _ _).mem_iff,wq];constructor
       .rintro(⟨h1,h2⟩|⟨h1,h2⟩)
        .exact⟨h1,by omega⟩
        .exact⟨h1,by omega⟩
       .rintro⟨h1,h2⟩;rcases l3 k r.length with h3|h3
        .exact .inr ⟨h1,by omega⟩
        .exact .inl ⟨h1,h3⟩
      .rw[W5];refine⟨up,Z4 (λ{a b} ha hb h=>?_) (pr (λr=>r) _),λa ha b hb=>tV ?_⟩
       .have h1:=((wq a).mp ((Uh _ _).mem_iff.mp ha)).2;have h2:=((wq b).mp ((Uh _ _).mem_iff.mp hb)).2;unfold bf;rw[h1,h2];exact uV h
       .have h1:=((mem a).mp ha).2;have h2:=((wq b).mp ((Uh _ _).mem_iff.mp hb)).2;omega
   .have h:¬((n:Int)%((k+1:Nat):Int)=0):=by simpa using h
    refine Qf ⟨Q,_,_,_,nd,λr=>?_,up,rfl⟩;rw[mem];constructor
    .rintro⟨h1,h2⟩;exact⟨h1,by omega⟩
    .rintro⟨h1,h2⟩;refine⟨h1,?_⟩;rcases l3 k r.length with h3|h3
     .exfalso;have e:r.length=k+1:=by omega
      have:=h1.dvd G;rw[e]at this;exact h (by rw[<-Int.natCast_emod,this];rfl)
     .exact h3
  .obtain⟨Q,_,_,_,nd,mem,up,rfl⟩:=he;rw[Og]at mem;exact vc (Ya rfl ⟨Q,rfl,nd,λr=>⟨λh=>((mem r).mp h).1,λh=>(mem r).mpr ⟨h,h.rs.len⟩⟩,up⟩)
 obtain⟨o,e,h1,Q,rfl,h2⟩:=key;exact⟨Q,Zd rfl h1,h2⟩
theorem AV{kvs:List (Int×Int)}(nd:(kvs.map (·.1)).Nodup){k v:Int}:Se kvs k=some v↔(k,v)∈kvs:=by
 induction kvs with
 |nil=>simp[Se]
 |cons p kvs ih=>
  simp only[V1,T2]at nd;unfold Se;rw[S5];by_cases h:p.1=k
  .rw[K2 h];simp only[Option.map_some,Option.some.injEq,T1];constructor
   .rintro rfl;exact .inl (by rw[<-h])
   .rintro(h'|h')
    .rw[<-h']
    .exact absurd (U1.mpr ⟨_,h',h.symm⟩) nd.1
  .rw[O2 h];rw[T1];refine(ih nd.2).trans ⟨.inr,λh'=>h'.resolve_left λe=>h (by rw[<-e])⟩
theorem Gw{kvs:List (Int×Int)}{k:Int}:Se kvs k=none↔k∉kvs.map (·.1):=by
 unfold Se;rw[Option.map_eq_none_iff,List.find?_eq_none];constructor
 .intro h hm;obtain⟨p,hp,e⟩:=U1.mp hm;exact h p hp (K2 e)
 .intro h p hp e;exact h (U1.mpr ⟨p,hp,X2 e⟩)
theorem BV{kvs:List (Int×Int)}{k v:Int}(h:Se kvs k=none):dput kvs k v=kvs++[(k,v)]:=by unfold dput;rw[B2];intro e;rw[B8]at e;obtain⟨p,hp,e⟩:=e;exact Gw.mp h (U1.mpr ⟨p,hp,X2 e⟩)
structure Dk(n:Nat)(kvs:List (Int×Int)):Prop where
 nd:(kvs.map (·.1)).Nodup
 el:∀p∈kvs,El n p.1/\El n p.2
theorem Dk.len{n:Nat}{kvs:List (Int×Int)}(h:Dk n kvs):kvs.length<=n:=by
 have:=jw (n:=n) h.nd λx hx=>by obtain⟨p,hp,rfl⟩:=U1.mp hx;exact(h.el p hp).1
 rwa [Y0]at this
theorem Dk.snoc{n:Nat}{kvs:List (Int×Int)}(h:Dk n kvs){k v:Int}(hk:El n k)(hv:El n v)(hn:Se kvs k=none):Dk n (kvs++[(k,v)]):=by
 refine⟨?_,λp hp=>?_⟩
 .rw[D3,K5];refine⟨h.nd,by simp,λa ha b hb=>?_⟩;simp at hb;subst hb;rintro rfl;exact Gw.mp hn ha
 .rcases G2.mp hp with hp|hp
  .exact h.el p hp
  .simp at hp;subst hp;exact⟨hk,hv⟩
structure UH(A B:J0)(n:Nat)(g:Int->Int):Prop where
 el:∀a,El n a->El n (g a)
 inj:∀a b,El n a->El n b->g a=g b->a=b
 mul:∀a b,El n a->El n b->g (tg A a b)=tg B (g a) (g b)
noncomputable def Ag(g:Int->Int)(kvs:List (Int×Int)):Prop:=∀p∈kvs,g p.1=p.2
theorem Ag.snoc{g:Int->Int}{kvs:List (Int×Int)}(h:Ag g kvs){k v:Int}(e:g k=v):Ag g (kvs++[(k,v)]):=λp hp=>by
 rcases G2.mp hp with hp|hp
 .exact h p hp
 .simp at hp;subst hp;exact e
noncomputable def Ji(a b:List (Int×Int)):Prop:=∃t,b=a++t
theorem Ji.mem{a b:List (Int×Int)}(h:Ji a b){p:Int×Int}(hp:p∈a):p∈b:=by obtain⟨t,rfl⟩:=h;exact Y2 _ hp
theorem Ji.refl(a:List (Int×Int)):Ji a a:=⟨[],by simp⟩
theorem Ji.trans{a b c:List (Int×Int)}(h:Ji a b)(k:Ji b c):Ji a c:=by obtain⟨t,rfl⟩:=h;obtain⟨u,rfl⟩:=k;exact⟨t++u,by simp⟩
theorem Ji.snoc(a:List (Int×Int))(p:Int×Int):Ji a (a++[p]):=⟨[p],rfl⟩
theorem Ji.le{a b:List (Int×Int)}(h:Ji a b):a.length<=b.length:=by obtain⟨t,rfl⟩:=h;simp
theorem CV{i:Nat}{env:Env}{Q:Out->Env->Prop}{kvs:List (Int×Int)}(h:env[i]?=some (.dc kvs))(k:Q .nx (env.set i (.sh (.dct kvs)))):wp (Yc i) env Q:=⟨_,_,by simp only[Yc,h],k⟩
theorem DV{i:Nat}{a e:Ex}{env:Env}{Q:Out->Env->Prop}{kvs:List (Int×Int)}{x y:Int}(h:env[i]?=some (.dc kvs))(ha:a env=some (.int x))(he:e env=some (.int y))(hl:kvs.length<=1000)(k:Q .nx (env.set i (.dc (dput kvs x y)))):wp (Xk i a e) env Q:=
 ⟨_,_,by simp only[Xk,h,ha,he];rw[Q1 (by rw[yc];omega)],k⟩
theorem EV{a b:Ex}{env:Env}{kvs:List (Int×Int)}{k v:Int}(ha:a env=some (.dct kvs))(hb:b env=some (.int k))(h:Se kvs k=some v):Zk a b env=some (.int v):=by simp only[Zk,De,ha,hb,Lz,h]
theorem UH.rest{A B:J0}{n s s':Nat}(GA:Pa A n s)(GB:Pa B n s'){g:Int->Int}(h:UH A B n g):g s=s':=by
 have h1:=h.mul s s GA.s GA.s;rw[GA.l GA.s]at h1;have hE:=h.el _ GA.s;have h2:tg B (g s) (g s)=tg B (g s) s':=by rw[<-h1,GB.r hE]
 exact GB.cl hE hE GB.s h2
noncomputable def xq(T:J0)(r:K0)(x:Int):K0:=Wc (r.map λy=>tg T y x)
theorem FV{T:J0}{r:K0}{x z:Int}:z∈xq T r x↔∃y∈r,tg T y x=z:=by unfold xq;rw[(Af _).mem_iff,U1]
noncomputable def Loose(T:J0)(n:Nat)(r:K0):Prop:=∀x,El n x->jc T r x=xq T r x
noncomputable def yq(T:J0)(n:Nat)(r:K0):Bool:=(upto n).all λx=>decide (jc T r x=xq T r x)
theorem VH{T:J0}{n:Nat}{r:K0}:yq T n r=true↔Loose T n r:=by simp only[yq,G3,N2];exact⟨λh x hx=>h x (Ud.mpr hx),λh x hx=>h x (Ud.mp hx)⟩
noncomputable def Fc(T:J0)(r:K0)(n:Nat):K0:=(upto n).filter λx=>ji T r x
theorem Im{T:J0}{r:K0}{n:Nat}:(Fc T r n).length=(Oc T r n).length:=by unfold Fc Oc;rw[Y0]
theorem VA{T:J0}{r:K0}{n i:Nat}(hi:i<(Fc T r n).length):(Oc T r n).getD i []=jc T r ((Fc T r n).getD i 0):=by unfold Oc;show((Fc T r n).map (jc T r)).getD i []=_;simp[List.getD,hi]
theorem zq{T:J0}{r:K0}{n i:Nat}(hi:i<(Fc T r n).length):El n ((Fc T r n).getD i 0)/\ji T r ((Fc T r n).getD i 0)=true:=by
 have:(Fc T r n).getD i 0∈Fc T r n:=by rw[K1,E1 hi];exact N3 hi
 unfold Fc at this;rw[E2,Ud]at this;exact this
structure nj(T:J0)(r:K0)(n:Nat)(P:Int->Nat):Prop where
 lt:∀x,El n x->P x<(Oc T r n).length
 at':∀x,El n x->jc T r ((Fc T r n).getD (P x) 0)=jc T r x
theorem GV{T:J0}{n s:Nat}{r:K0}(G:Pa T n s)(h:Sg T n s r):∃P,nj T r n P:=by
 have ex:∀x,∃k:Nat,El n x->k<(Oc T r n).length/\jc T r ((Fc T r n).getD k 0)=jc T r x:=λx=>by
  by_cases hx:El n x
  .obtain⟨z,hz,hl,e⟩:=h.lead G hx;have hm:z∈Fc T r n:=E2.mpr ⟨Ud.mpr hz,hl⟩;obtain⟨k,hk,ek⟩:=R6 hm;refine⟨k,λ_=>⟨by rw[<-Im];exact hk,?_⟩⟩;rw[K1,E1 hk];show jc T r ((Fc T r n)[k])=_;rw[ek,e]
  .exact⟨0,λh=>absurd h hx⟩
 obtain⟨P,hP⟩:=r9 ex;exact⟨P,λx hx=>(hP x hx).1,λx hx=>(hP x hx).2⟩
section
variable{T:J0}{n s:Nat}{r:K0}{P:Int->Nat}
theorem nj.uniq(G:Pa T n s)(h:Sg T n s r)(p:nj T r n P){x:Int}(hx:El n x){k:Nat}(hk:k<(Oc T r n).length)(e:jc T r ((Fc T r n).getD k 0)=jc T r x):k=P x:=by have h1:=p.lt x hx;rw[<-Im]at h1 hk;have e2:=JH (zq hk).2 (zq h1).2 (e.trans (p.at' x hx).symm);have nd:(Fc T r n).Nodup:=(Qu n).filter _;simp[List.getD,hk,h1]at e2;exact(v7 nd).mp e2
theorem nj.HV(G:Pa T n s)(h:Sg T n s r)(p:nj T r n P){x:Int}(hx:El n x){k:Nat}(hk:k<(Oc T r n).length)(hm:x∈(Oc T r n).getD k []):k=P x:=by rw[<-Im]at hk;rw[VA hk]at hm;exact p.uniq G h hx (by rw[<-Im];exact hk) (h.Mt G (zq hk).1 hm).symm
theorem nj.mem(G:Pa T n s)(h:Sg T n s r)(p:nj T r n P){x:Int}(hx:El n x):x∈(Oc T r n).getD (P x) []:=by have h1:=p.lt x hx;rw[VA (by rw[Im];exact h1),p.at' x hx];exact h.Bw G hx
theorem nj.lead(G:Pa T n s)(h:Sg T n s r)(p:nj T r n P){k:Nat}(hk:k<(Oc T r n).length):P ((Fc T r n).getD k 0)=k:=by
 have mh:k<(Fc T r n).length:=by rw[Im];exact hk
 exact(p.uniq G h (zq mh).1 hk rfl).symm
theorem Loose.mul(G:Pa T n s)(h:Sg T n s r)(hl:Loose T n r){x y x' y':Int}(hx:El n x)(hy:El n y)(Hg:El n x')(pi:El n y')(e1:jc T r x=jc T r x')(e2:jc T r y=jc T r y'):jc T r (tg T x y)=jc T r (tg T x' y'):=by
 have m1:x∈jc T r x':=by rw[<-e1];exact h.Bw G hx
 have m2:y∈jc T r y':=by rw[<-e2];exact h.Bw G hy
 obtain⟨u,hu,eu⟩:=Al.mp m1;obtain⟨v,hv,ev⟩:=Al.mp m2;have vq:=h.rs.el u hu;have Hw:=h.rs.el v hv;have m3:tg T u y'∈jc T r y':=by rw[hl y' pi];exact FV.mpr ⟨u,hu,rfl⟩
 obtain⟨w,hw,ew⟩:=Al.mp m3;have WH:=h.rs.el w hw;refine h.Mt G (G.bd Hg pi) (Al.mpr ⟨tg T w v,h.cls w hw v hv,?_⟩);rw[<-eu,<-ev,G.as Hg vq (G.bd pi Hw),<-G.as vq pi Hw,<-ew,G.as pi WH Hw,<-G.as Hg pi (G.bd WH Hw)]
noncomputable def XH(T:J0)(r:K0)(n:Nat)(P:Int->Nat):J0:=(Fc T r n).map λa=>(Fc T r n).map λb=>((P (tg T a b):Nat):Int)
end
theorem IV{T:J0}{n s:Nat}(G:Pa T n s){r:K0}(h:Sg T n s r){x:Int}(hx:El n x):aw [la T,ma r,.int x]=some (ma (xq T r x)):=by have hn:=G.tab.top;have hl:=h.rs.len;refine Pd rfl (vc (Vb.ev (Br (Cr (zr (r:=r) (λy=>tg T y x) (xg rfl) (by rw[yc];omega) (λy hy=>?_) ⟨by rw[Y0];omega,rfl⟩)))));exact Vh G.tab rfl (Ha rfl (Ha rfl ⟨h.rs.el y hy,hx,rfl⟩))
theorem WA{T:J0}{n s:Nat}(G:Pa T n s){r:K0}(h:Sg T n s r):nq [la T,ma r]=some (.bl (yq T n r)):=by
 have hn:=G.tab.top;refine Pd rfl (vc ?_);obtain⟨d,h1,k,rfl,h2⟩:=Ar (i:=2) (e:=eB (Ra (Fa ut [aa 0,aa 1,aa 2]) (Fa aw [aa 0,aa 1,aa 2]))) (env:=enter 3 [la T,ma r]) (it:=vb (za Ta (aa 0))) (P:=(·=yq T n r)) (r:=upto n) (λx=>decide (jc T r x=xq T r x)) (Wh (Ad G.tab rfl) (by omega)) (by rw[Fd,yc];omega) (λx hx=>by have hx:=Ud.mp hx;exact Ou (fD (Xc ((Xl rfl rfl rfl).trans (PH G h hx)) (Xc ((Xl rfl rfl rfl).trans (IV G h hx)) rfl)))) rfl
 exact⟨_,h1,by subst h2;rfl⟩
theorem JV{T:J0}{n s:Nat}(G:Pa T n s){r:K0}(h:Sg T n s r):EG [la T,ma r]=some (.bl (yq T n r)):=
 Pd rfl (wp_seq (Rf (Ya ((Nd rfl).trans (Ue G)) (wp_seq (Rf (Ya ((uc rfl rfl).trans (Ew G h)) (vc (Ya ((uc rfl rfl).trans (WA G h)) rfl))))))))
theorem LV{i:Nat}{env:Env}{Q:Out->Env->Prop}(k:Q .nx (env.set i (.dc []))):wp (Oz i) env Q:=⟨_,_,rfl,k⟩
theorem MV{i j:Nat}{e:Ex}{R:J0}{b:St}{env:Env}{Q:Out->Env->Prop}(I:Nat->Env->Prop)(hit:e env=some (la R))(h0:I 0 env)(step:∀(k:Nat) en q,R[k]?=some q->I k en->wp b ((en.set i (.sh (.int k))).set j (.sh (ma q))) (lps (I (k+1)) Q))(h1:∀en,I R.length en->Q .nx en):wp (yb (g2 i j) (Ks e) b) env Q:=by
 have el:∀(k:Nat) (xs:W0),(Dg k xs).length=xs.length:=by
  intro k xs;induction xs generalizing k with
  |nil=>rfl
  |cons x xs ih=>simp[Dg,ih]
 have eg:∀(k i:Nat) (xs:W0),(Dg k xs)[i]?=(xs[i]?).map λd=>D.tup [.int ((k+i:Nat):Int),d]:=by
  intro k i xs;induction xs generalizing k i with
  |nil=>simp[Dg]
  |cons x xs ih=>
   cases i with
   |zero=>simp[Dg]
   |succ i=>simp only[Dg,m6];rw[ih (k+1) i];congr 2;funext d;congr 3;omega
 refine ur I (ds:=Dg 0 (R.map ma)) (by simp only[Ks,hit,la]) h0 (λk d en hd hI=>?_) (λen hI=>h1 en (by rwa [el,Y0]at hI));rw[eg,i3]at hd;cases hq:R[k]? with
 |none=>rw[hq]at hd;cases hd
 |some q=>rw[hq]at hd;cases hd;refine⟨_,rfl,?_⟩;have:=step k en q hq hI;simpa using this
theorem NV{T:J0}{n s:Nat}(G:Pa T n s){r:K0}(h:Sg T n s r){P:Int->Nat}(p:nj T r n P):bw [la T,la (Oc T r n)]=some (la (XH T r n P)):=by
 have hT:=G.tab;have hn:=hT.top;have Us:=yc;have Io:=LH T r n;refine Pd rfl (wp_seq (LV ?_));refine wp_seq (MV (R:=Oc T r n) (λk e=>∃w z3 z4 z5,(w.map (·.1)).Nodup/\(∀q∈w,El n q.1/\q.2=(P q.1:Int)/\P q.1<k)/\(∀x,El n x->P x<k->(x,(P x:Int))∈w)/\e=[.sh (la T),.sh (la (Oc T r n)),.dc w,z3,z4,z5,.un,.un,.un,.un]) rfl ⟨[],_,_,_,by simp,by simp,λx _ hx=>by omega,rfl⟩ (λk e q hq he=>?_) (λe he=>?_))
 .obtain⟨w,_,_,_,nd,hw,hc,rfl⟩:=he;have hk:k<(Oc T r n).length:=(P1.mp hq).1;have eq:(Oc T r n).getD k []=q:=by rw[K1,hq];rfl
  have mh:k<(Fc T r n).length:=by rw[Im];exact hk
  have qs:q=jc T r ((Fc T r n).getD k 0):=by rw[<-eq,VA mh]
  have YH:∀x∈q,El n x/\P x=k:=λx hx=>by rw[qs]at hx;have hE:=h.Aw G (zq mh).1 hx;exact⟨hE,(p.HV G h hE hk (by rw[eq,qs];exact hx)).symm⟩
  have OV:q.Nodup:=by rw[qs];exact(h.zw G (zq mh).1).imp λ{a b} h=>by omega
  refine Dn (r:=q) (λj e=>∃w z5,(w.map (·.1)).Nodup/\(∀y∈w,El n y.1/\y.2=(P y.1:Int)/\(P y.1<k\/y.1∈q.take j))/\(∀x,El n x->P x<k->(x,(P x:Int))∈w)/\(∀x∈q.take j,(x,(k:Int))∈w)/\e=[.sh (la T),.sh (la (Oc T r n)),.dc w,.sh (.int k),.sh (ma q),z5,.un,.un,.un,.un]) (xg rfl) ⟨w,_,nd,λy hy=>⟨(hw y hy).1,(hw y hy).2.1,.inl (hw y hy).2.2⟩,hc,by simp,rfl⟩ (λj e x hx he=>?_) (λe he=>?_)
  .obtain⟨w,_,nd,hw,hc,Qh,rfl⟩:=he;have QV:=V2 hx;obtain⟨xE,xP⟩:=YH x QV;have Iq:Se w x=none:=by
    rw[Gw];intro hm;obtain⟨y,hy,rfl⟩:=U1.mp hm;rcases(hw y hy).2.2 with h1|h1
    .omega
    .obtain⟨i,hi,ei⟩:=R6 h1;rw[B4]at hi;rw[Zay]at ei;obtain⟨hj,ej⟩:=P1.mp hx;have:=(v7 OV).mp (ei.trans ej.symm);omega
   have jx:w.length<=n:=by
    have:=jw (n:=n) nd λz hz=>by obtain⟨y,hy,rfl⟩:=U1.mp hz;exact(hw y hy).1
    rwa [Y0]at this
   refine DV (kvs:=w) rfl rfl rfl (by omega) ?_;rw[BV Iq];have tk:q.take (j+1)=q.take j++[x]:=by rw[P4,hx];rfl
   refine⟨_,_,?_,λy hy=>?_,λz nZ mx=>Y2 _ (hc z nZ mx),λz hz=>?_,rfl⟩
   .rw[D3,K5];refine⟨nd,by simp,λa ha b hb=>?_⟩;simp at hb;subst hb;rintro rfl;exact Gw.mp Iq ha
   .rw[tk];rcases G2.mp hy with hy|hy
    .refine⟨(hw y hy).1,(hw y hy).2.1,?_⟩;rcases(hw y hy).2.2 with h1|h1
     .exact .inl h1
     .exact .inr (Y2 _ h1)
    .simp at hy;subst hy;exact⟨xE,by rw[xP],.inr (by simp)⟩
   .rw[tk]at hz;rcases G2.mp hz with hz|hz
    .exact Y2 _ (Qh z hz)
    .simp at hz;subst hz;simp
  .obtain⟨w,_,nd,hw,hc,Qh,rfl⟩:=he;rw[M4]at hw Qh;refine⟨w,_,_,_,nd,λy hy=>⟨(hw y hy).1,(hw y hy).2.1,?_⟩,λx Hx AJ=>?_,rfl⟩
   .rcases(hw y hy).2.2 with h1|h1
    .omega
    .have:=(YH _ h1).2;omega
   .rcases l3 (P x) k with h1|h1
    .exact hc x Hx h1
    .have e1:P x=k:=by omega
     have hm:=p.mem G h Hx;rw[e1,eq]at hm;rw[e1];exact Qh x hm
 .obtain⟨w,z3,z4,z5,nd,hw,hc,rfl⟩:=he;have get:∀x,El n x->Se w x=some (P x:Int):=λx hx=>(AV nd).mpr (hc x hx (p.lt x hx));refine wp_seq (Bc (Vb.ev (NM (T:=Oc T r n) (λ_=>true) (λq=>q.getD 0 0) (Hj rfl) (by omega) (λq hq=>Ik rfl rfl) (λq hq _=>Bn (Xc rfl (Ha rfl ⟨⟨by omega,?_⟩,rfl⟩))) ?_)))
  .rw[NH hq];have:=h.pos;omega
  have eh:((Oc T r n).filter λ_=>true).map (λq=>q.getD 0 0)=Fc T r n:=by
   rw[d8.mpr (λ_ _=>rfl)];unfold Oc;rw[i4]
   conv=>rhs;rw[<-List.map_id (Fc T r n)]
   refine M5 λx hx=>?_;have:=(E2.mp hx).2;exact X2 this
  rw[eh];have MY:(Fc T r n).length<=n:=by rw[Im];exact Io
  have ZH:∀x∈Fc T r n,El n x:=λx hx=>Ud.mp (E2.mp hx).1;refine wp_seq (sr (Ya rfl ⟨_,rfl,?_⟩));refine wp_seq (Dn (r:=Fc T r n) (λk e=>∃z4 z8 z9 sl,(sl=.dc w\/sl=.sh (.dct w))/\e=[.sh (la T),.sh (la (Oc T r n)),sl,z3,z4,z5,.sh (ma (Fc T r n)),.ow ((((Fc T r n).take k).map λa=>(Fc T r n).map λb=>((P (tg T a b):Nat):Int)).map ma),z8,z9]) (xg rfl) ⟨z4,.un,.un,_,.inl rfl,rfl⟩ (λk e x hx he=>?_) (λe he=>?_))
  .obtain⟨z4,z8,z9,sl,aI,rfl⟩:=he;have RV:=V2 hx;have yo:=ZH x RV;have fz:wp (Yc 2) [.sh (la T),.sh (la (Oc T r n)),sl,z3,z4,z5,.sh (ma (Fc T r n)),.ow ((((Fc T r n).take k).map λa=>(Fc T r n).map λb=>((P (tg T a b):Nat):Int)).map ma),.sh (.int x),z9] (λo e=>o=.nx/\e=[.sh (la T),.sh (la (Oc T r n)),.sh (.dct w),z3,z4,z5,.sh (ma (Fc T r n)),.ow ((((Fc T r n).take k).map λa=>(Fc T r n).map λb=>((P (tg T a b):Nat):Int)).map ma),.sh (.int x),z9]):=by
    rcases aI with rfl|rfl
    .exact CV (kvs:=w) rfl ⟨rfl,rfl⟩
    .exact EM rfl ⟨rfl,rfl⟩
   refine wp_seq (fz.mono λo e h'=>?_);obtain⟨rfl,rfl⟩:=h';refine OM (T:=((Fc T r n).take k).map λa=>(Fc T r n).map λb=>((P (tg T a b):Nat):Int)) rfl (zr (r:=Fc T r n) (λb=>((P (tg T x b):Nat):Int)) (xg rfl) (by omega) (λb hb=>?_) ⟨by rw[Y0,B4];omega,?_⟩)
   .have ak:=ZH b hb;obtain⟨v,DJ,oZ⟩:=Vh (P:=(·=tg T x b)) (e0:=aa 0) (e1:=aa 8) (e2:=aa 9) (env:=[Sl.sh (la T),.sh (la (Oc T r n)),.sh (.dct w),z3,z4,z5,.sh (ma (Fc T r n)),.ow ((((Fc T r n).take k).map λa=>(Fc T r n).map λb=>((P (tg T a b):Nat):Int)).map ma),.sh (.int x),.sh (.int b)]) hT rfl (Ha rfl (Ha rfl ⟨yo,ak,rfl⟩));rw[oZ]at DJ;exact Ha (EV rfl DJ (get _ (G.bd yo ak))) rfl
   .refine⟨z4,.sh (.int x),z9,_,.inr rfl,?_⟩;have tk:(Fc T r n).take (k+1)=(Fc T r n).take k++[x]:=by rw[P4,hx];rfl
    simp only[tk,D3];rfl
  .obtain⟨z4,z8,z9,sl,aI,rfl⟩:=he;rw[M4];exact wp_seq (lD rfl (vc (Ya rfl rfl)))
theorem SV{T:J0}{n s:Nat}(G:Pa T n s){r:K0}(h:Sg T n s r)(hl:Loose T n r){P:Int->Nat}(p:nj T r n P):FG [la T,ma r]=some (la (XH T r n P)):=by refine Pd rfl (wp_seq (Rf (Ya ((Nd rfl).trans (Ue G)) ?_)));refine wp_seq (Rf (Ya ((uc rfl rfl).trans (Ew G h)) ?_));refine wp_seq (Gj (yp (Jk (Ya ((uc rfl rfl).trans (WA G h)) ⟨_,rfl,by rw[VH.mpr hl];rfl⟩))) ?_);refine wp_seq (Bc (Ya ((uc rfl rfl).trans (QH G h)) ?_));exact vc (Ya ((uc rfl rfl).trans (NV G h p)) rfl)
theorem bI{a b:Sx}{env e1:Env}(h:a env=some (.ok .nx,e1)):jb a b env=b e1:=by unfold jb;rw[h]
theorem Iw{a b:Sx}{env e1:Env}{c:Nat}(h:a env=some (.ex c,e1)):jb a b env=some (.ex c,e1):=by unfold jb;rw[h]
theorem TV{g:St}{env e1:Env}{o:Out}(h:g env=some (o,e1)):Kb g env=some (.ok o,e1):=by unfold Kb;rw[h]
theorem Jw{t:Tx}{a b:Sx}{env:Env}(h:t env=some true):Nc t a b env=a env:=by unfold Nc;rw[h]
theorem Gg{p n:Nat}{g:Sx}{ds:W0}{c:Nat}{e1:Env}(hp:ds.length=p)(h:g (enter n ds)=some (.ex c,e1)):Zc p n g ds=some (.inr c):=by unfold Zc;rw[Q1 hp,h]
theorem cI{n m:Nat}{x:Int}(h:El (n*m) x):El n (x%n):=by
 have hn:0<n:=by
  rcases Zal n with h0|h0
  .subst h0;have:=h.1;have:=h.2;simp at *;omega
  .exact h0
 exact⟨U4 _ (by omega),K4 _ (by omega)⟩
theorem dI{n m:Nat}{x:Int}(h:El (n*m) x):El m (x/n):=by
 obtain⟨a,ha,rfl⟩:=h.nat;have e:(a:Int)/n=((a/n:Nat):Int):=by simp
 rw[e];exact El.of (Nat.div_lt_of_lt_mul ha)
noncomputable def eI(A B:J0)(n m:Nat):J0:=(upto (n*m)).map λa=>(upto (n*m)).map λb=>tg A (a%n) (b%n)+tg B (a/n) (b/n)*n
theorem UV{n k:Nat}(h:k<n):(upto n)[k]?=some (k:Int):=by simp[upto,h]
theorem WV{A B:J0}{n m s s':Nat}(GA:Pa A n s)(GB:Pa B m s')(Pq:n*m<=12){a b:Int}(ha:El (n*m) a)(hb:El (n*m) b):nt [la A,la B,.int a,.int b]=some (.int (tg A (a%n) (b%n)+tg B (a/n) (b/n)*n)):=by have ap:=GA.tab.pos;have at':=GA.tab.top;refine Pd rfl (wp_seq (Bc (Ya (Ad GA.tab rfl) ?_)));refine wp_seq (Bc (zb.ev (Vh GA.tab rfl (pf (Ha rfl (Ha rfl ⟨by omega,pf (Ha rfl (Ha rfl ⟨by omega,cI ha,cI hb,?_⟩))⟩))))));refine wp_seq (Bc (zb.ev (Vh GB.tab rfl (qr (Ha rfl (Ha rfl ⟨⟨by omega,by omega⟩,qr (Ha rfl (Ha rfl ⟨⟨by omega,by omega⟩,dI ha,dI hb,?_⟩))⟩))))));exact vc (zb.ev (cm (Ha rfl (bD (Ha rfl (Ha rfl ⟨.inr ⟨by omega,by omega⟩,rfl⟩))))))
theorem take_snoc{α:Type}(f:Int->α){n k:Nat}(h:k<n):((upto n).take (k+1)).map f=((upto n).take k).map f++[f k]:=by rw[P4,UV h];simp
theorem XV{A B:J0}{n m s s':Nat}(GA:Pa A n s)(GB:Pa B m s')(Pq:n*m<=12):wp (ua (sNew 3 (Xa [])) (ua (yb (gN 4) (vb (aa 2)) (Ai 3 (yh (cb 5 (vb (aa 2)) xb (Fa nt [aa 0,aa 1,aa 4,aa 5]))))) (ua (Yc 3) (Na (rg 3))))) [.sh (la A),.sh (la B),.sh (.int ((n*m:Nat):Int)),.un,.un,.un] (λo _=>o=.rt (la (eI A B n m))):=by
 have Us:=yc;let F:Int->K0:=λa=>(upto (n*m)).map λb=>tg A (a%n) (b%n)+tg B (a/n) (b/n)*n;refine wp_seq (Ru (Ya rfl ⟨[],rfl,?_⟩));refine wp_seq (zp (n:=n*m) (λk e=>∃x,e=[.sh (la A),.sh (la B),.sh (.int ((n*m:Nat):Int)),.nw ((((upto (n*m)).take k).map F).map ma),x,.un]) (Pg rfl (by omega)) ⟨_,rfl⟩ (λk e hk he=>?_) (λe he=>?_))
 .obtain⟨_,rfl⟩:=he;refine Su (ds:=(((upto (n*m)).take k).map F).map ma) rfl (Vb.ev (Br (zr (r:=upto (n*m)) (λb=>tg A ((k:Int)%n) (b%n)+tg B ((k:Int)/n) (b/n)*n) (Wh rfl (by omega)) (by rw[Fd];omega) (λb hb=>?_) ⟨?_,?_⟩)))
  .refine Ha (Eq.trans ?_ (WV GA GB Pq (El.of hk) (Ud.mp hb))) rfl;simp[Fa,evs,aa,Sl.shd]
  .simp[Fd];omega
  .refine⟨.sh (.int k),?_⟩;rw[take_snoc F hk,D3];rfl
 .obtain⟨_,rfl⟩:=he;refine wp_seq (Iy (ds:=(((upto (n*m)).take (n*m)).map F).map ma) rfl (vc (Ya rfl ?_)));rw[O7 (by rw[Fd];omega)];rfl
theorem size_eq{A B:J0}{n m s s':Nat}(GA:Pa A n s)(GB:Pa B m s')(x y z u:Sl):Sa 2 (Ma Td (za Ta (aa 0)) (za Ta (aa 1))) [.sh (la A),.sh (la B),x,y,z,u]=some (.nx,[.sh (la A),.sh (la B),.sh (.int ((n*m:Nat):Int)),y,z,u]):=by
 have h1:=GA.tab.top;refine Wi ?_;refine(bD (P:=(·=((n*m:Nat):Int))) (Ha (Ad GA.tab rfl) (Ha (Ad GB.tab rfl) ⟨.inl ⟨by omega,by omega⟩,?_⟩))).eq
 push_cast;rfl
theorem YV{A B:J0}{n m s s':Nat}(GA:Pa A n s)(GB:Pa B m s')(Pq:n*m<=12):xG [la A,la B]=some (la (eI A B n m)):=by obtain⟨o,e,h1,rfl⟩:=XV GA GB Pq;refine Zd rfl (e1:=e) ?_;refine(Jc (vn ((Nd rfl).trans (Ue GA)))).trans ((Jc (vn ((Nd rfl).trans (Ue GB)))).trans ((Jc (size_eq GA GB _ _ _ _)).trans ((Jc ((wg ?_).trans Th)).trans h1)));exact(vp (P:=(·=false)) (Ha rfl (Ha rfl (by simp;omega)))).eq
theorem fI{α:Type}{i:Nat}{e:Ex}{env:Env}(A B:α->D):∀l:List α,(∀x∈l,e (env.set i (.sh (A x)))=some (B x))->yf i xb e env (l.map A)=some (l.map B)
 |[],_=>rfl
 |x::l,h=>by simp only[V1,yf,xb,h x (by simp),fI A B l λy hy=>h y (by simp[hy])]
theorem Jm{α:Type}{i:Nat}{it:Lx}{e:Ex}{env:Env}(l:List α)(A B:α->D)(hit:it env=some (l.map A))(hl:l.length<=lim)(he:∀x∈l,e (env.set i (.sh (A x)))=some (B x)):cb i it xb e env=some (.lst (l.map B)):=by simp only[cb,hit,Y0,Q1 hl,fI A B l he]
theorem strs_map:∀l:Q0,strs? (l.map .str)=some l
 |[]=>rfl
 |x::l=>by simp only[V1,strs?,strs_map l]
theorem join_eq(sep:Str)(l:Q0):PySem.Txt.join sep l=Str.join sep l:=PySem.StrLaws.glued_eq_join sep l
theorem gI{d:Nat}{sep:Str}(hs:d∉sep.cps.toList):∀l:Q0,(∀p∈l,d∉p.cps.toList)->d∉(Str.join sep l).cps.toList
 |[],_=>by show d∉(Str.empty).cps.toList;simp[PySem.Str.empty]
 |[x],h=>h x (by simp)
 |x::y::r,h=>by
  show d∉(x++sep++Str.join sep (y::r)).cps.toList;have ih:=gI hs (y::r) λp hp=>h p (by simp at hp |-;exact .inr hp);have hx:=h x (by simp);simp only[PySem.Str.cps_append,Array.toList_append,G2];rintro((h|h)|h)
  .exact hx h
  .exact hs h
  .exact ih h
noncomputable def dig(i:Int):Str:=toString i
theorem ZV:∀x:Nat,x<12->((dig x).length<=2/\0<(dig x).length/\32∉(dig x).cps.toList/\47∉(dig x).cps.toList):=by decide +kernel
theorem YA{x:Int}(h:El 12 x):(dig x).length<=2/\0<(dig x).length/\32∉(dig x).cps.toList/\47∉(dig x).cps.toList:=by obtain⟨k,hk,rfl⟩:=h.nat;exact ZV k hk
noncomputable def Aq(r:K0):Str:=Str.join ⟨#[32]⟩ (r.map dig)
noncomputable def aW(T:J0):Str:=Str.join ⟨#[47]⟩ (T.map Aq)
theorem bW{sep:Str}{B:Nat}(hs:sep.length=1){l:Q0}(h:∀p∈l,p.length<=B):(Str.join sep l).length<=l.length*B+l.length:=by have h1:=PySem.StrLaws.join_length_le sep l;have h2:=PySem.StrLaws.sumLen_le l h;rw[hs]at h1;omega
theorem joinOk_of{sep:Str}{B:Nat}(hs:sep.length=1){l:Q0}(h:∀p∈l,p.length<=B)(hl:l.length*B+l.length<=100000):PySem.JoinOk sep l=true:=by unfold PySem.JoinOk;rw[PySem.StrLaws.joinFits h (by rw[hs];omega)];rfl
structure Rw(r:K0):Prop where
 el:∀x∈r,El 12 x
 pos:r≠[]
 len:r.length<=12
theorem Rw.bound{r:K0}(h:Rw r):(Aq r).length<=36:=by
 have:=bW (sep:=⟨#[32]⟩) (B:=2) rfl (l:=r.map dig) λp hp=>by obtain⟨x,hx,rfl⟩:=U1.mp hp;exact(YA (h.el x hx)).1
 rw[Y0]at this;have:=h.len;unfold Aq;omega
theorem Rw.free{r:K0}(h:Rw r):47∉(Aq r).cps.toList:=gI (by decide) _ λp hp=>by obtain⟨x,hx,rfl⟩:=U1.mp hp;exact(YA (h.el x hx)).2.2.2
theorem iI{T:J0}{n:Nat}(hT:Tab T n){r:K0}(hr:r∈T):Rw r:=by
 have h1:=hT.row r hr;have h2:=hT.pos;have h3:=hT.top;refine⟨λx hx=>?_,λe=>?_,by omega⟩
 .have:=hT.ent r hr x hx;exact⟨this.1,by omega⟩
 .rw[e]at h1;simp at h1;omega
theorem jI{sep:Str}{l:Q0}(h:PySem.JoinOk sep l=true):Qn sep (.lst (l.map .str))=some (.str (Str.join sep l)):=by simp only[Qn,strs_map,Q1 h,join_eq]
theorem cW{x:Int}(h:El 12 x):Zp (.int x)=some (.str (dig x)):=by
 have:x.natAbs.log2<1920:=by
  have h1:x.natAbs<12:=by have:=h.1;have:=h.2;omega
  have h2:x.natAbs.log2<=x.natAbs:=Nat.log2_le_self _;omega
 simp only[Zp,Q1 this];rfl
theorem ZA{φ:D->Option D}{e:Ex}{env:Env}{d d':D}(h:e env=some d)(k:φ d=some d'):za φ e env=some d':=by simp only[za,h,k]
theorem dW{r:K0}(h:Rw r):pt [ma r]=some (.str (Aq r)):=by
 have hl:=h.len;have e1:cb 1 (Db (aa 0)) xb (za Zp (aa 1)) (enter 2 [ma r])=some (.lst ((r.map dig).map .str)):=by rw[i4];exact Jm r D.int _ (xg rfl) (by rw[yc];omega) λx hx=>ZA rfl (cW (h.el x hx))
 refine Pd rfl (vc (Ya (ZA e1 (jI (joinOk_of (B:=2) rfl (λp hp=>?_) (by rw[Y0];omega)))) rfl));obtain⟨x,hx,rfl⟩:=U1.mp hp;exact(YA (h.el x hx)).1
theorem kI{T:J0}{n:Nat}(hT:Tab T n):yG [la T]=some (.str (aW T)):=by
 have hl:=hT.len;have ht:=hT.top;refine Pd rfl (wp_seq (Rf (Ya ((Nd rfl).trans (fw hT)) ?_)));have e1:cb 1 (Db (aa 0)) xb (Fa pt [aa 1]) (enter 2 [la T])=some (.lst ((T.map Aq).map .str)):=by rw[i4];exact Jm T ma _ (Hj rfl) (by rw[yc];omega) λr hr=>(Nd rfl).trans (dW (iI hT hr))
 refine vc (Ya (ZA e1 (jI (joinOk_of (B:=36) rfl (λp hp=>?_) (by rw[Y0];omega)))) rfl);obtain⟨r,hr,rfl⟩:=U1.mp hp;exact(iI hT hr).bound
noncomputable def wx(s:Sx)(env:Env)(Q:XO->Env->Prop):Prop:=∃o e,s env=some (o,e)/\Q o e
theorem Zg{g:St}{env:Env}{Q:XO->Env->Prop}(h:wp g env λo e=>Q (.ok o) e):wx (Kb g) env Q:=by obtain⟨o,e,h1,p⟩:=h;exact⟨_,_,by simp only[Kb,h1],p⟩
noncomputable def lI(b:Sx)(Q:XO->Env->Prop):XO->Env->Prop
 |.ok .nx,e=>wx b e Q
 |.ok .bk,e=>Q (.ok .bk) e
 |.ok .ct,e=>Q (.ok .ct) e
 |.ok (.rt d),e=>Q (.ok (.rt d)) e
 |.ex c,e=>Q (.ex c) e
theorem Sf{a b:Sx}{env:Env}{Q:XO->Env->Prop}(h:wx a env (lI b Q)):wx (jb a b) env Q:=by
 obtain⟨o,e,h1,p⟩:=h
 match o,h1,p with
 |.ok .nx,h1,p=>obtain⟨o,e',h2,p⟩:=p;exact⟨o,e',by simp only[jb,h1,h2],p⟩
 |.ok .bk,h1,p=>exact⟨_,_,by simp only[jb,h1],p⟩
 |.ok .ct,h1,p=>exact⟨_,_,by simp only[jb,h1],p⟩
 |.ok (.rt d),h1,p=>exact⟨_,_,by simp only[jb,h1],p⟩
 |.ex c,h1,p=>exact⟨_,_,by simp only[jb,h1],p⟩
theorem Bl{c:Tx}{a b:Sx}{env:Env}{Q:XO->Env->Prop}(h:tv c env λk=>(k=true->wx a env Q)/\(k=false->wx b env Q)):wx (Nc c a b) env Q:=by
 obtain⟨k,h1,p,q⟩:=h;cases k with
 |true=>obtain⟨o,e,h2,p⟩:=p rfl;exact⟨o,e,by simp only[Nc,h1,h2],p⟩
 |false=>obtain⟨o,e,h2,p⟩:=q rfl;exact⟨o,e,by simp only[Nc,h1,h2],p⟩
theorem Bq{c:Nat}{env:Env}{Q:XO->Env->Prop}(h:Q (.ex c) env):wx (Lh c) env Q:=⟨_,_,rfl,h⟩
noncomputable def aB(r:D⊕Nat):XO->Env->Prop
 |.ok (.rt d),_=>r=.inl d
 |.ok .nx,_=>r=.inl .non
 |.ex c,_=>r=.inr c
 |_,_=>False
theorem cf{p n:Nat}{g:Sx}{ds:W0}{r:D⊕Nat}(hp:ds.length=p)(h:wx g (enter n ds) (aB r)):Zc p n g ds=some r:=by
 obtain⟨o,e,h1,q⟩:=h;unfold Zc;rw[Q1 hp,h1]
 match o,q with
 |.ok .nx,q=>rw[show r=.inl .non from q]
 |.ok .bk,q=>exact absurd q (by simp[aB])
 |.ok .ct,q=>exact absurd q (by simp[aB])
 |.ok (.rt d),q=>rw[show r=.inl d from q]
 |.ex c,q=>rw[show r=.inr c from q]
theorem re{φ:Fx}{a:Ex}{env:Env}{x:D}(h:a env=some x):dg φ [a] env=φ [x]:=by simp[dg,evs,h]
theorem ah{φ:Fx}{a b:Ex}{env:Env}{x y:D}(h:a env=some x)(h2:b env=some y):dg φ [a,b] env=φ [x,y]:=by simp[dg,evs,h,h2]
theorem bB{φ:Fx}{a b c:Ex}{env:Env}{x y z:D}(h:a env=some x)(h2:b env=some y)(h3:c env=some z):dg φ [a,b,c] env=φ [x,y,z]:=by simp[dg,evs,h,h2,h3]
theorem Fe{φ:Fx}{es:List Ex}{env:Env}{Q:XO->Env->Prop}{r:D⊕Nat}(h:dg φ es env=some r)(h1:∀d,r=.inl d->Q (.ok .nx) env)(h2:∀c,r=.inr c->Q (.ex c) env):wx (Ab φ es) env Q:=by
 cases r with
 |inl d=>exact⟨_,_,by simp only[Ab,h],h1 d rfl⟩
 |inr c=>exact⟨_,_,by simp only[Ab,h],h2 c rfl⟩
noncomputable def Ki(g:St)(gx:Sx):Prop:=∀env o e,g env=some (o,e)->gx env=some (.ok o,e)
noncomputable def df(φ:V0)(Kw:Fx):Prop:=∀ds d,φ ds=some d->Kw ds=some (.inl d)
theorem se{g:St}:Ki g (Kb g):=λenv o e h=>by simp only[Kb,h]
theorem Hd{a b:St}{ax bx:Sx}(ha:Ki a ax)(hb:Ki b bx):Ki (ua a b) (jb ax bx):=λenv o e h=>by
 cases h1:a env with
 |none=>simp only[ua,h1]at h;cases h
 |some p=>
  obtain⟨o1,e1⟩:=p;have k:=ha env o1 e1 h1;cases o1 with
  |nx=>simp only[ua,h1]at h;simp only[jb,k];exact hb e1 o e h
  |bk=>simp only[ua,h1]at h;cases h;simp only[jb,k]
  |ct=>simp only[ua,h1]at h;cases h;simp only[jb,k]
  |rt d=>simp only[ua,h1]at h;cases h;simp only[jb,k]
theorem le_if{t:Tx}{a b:St}{ax bx:Sx}(ha:Ki a ax)(hb:Ki b bx):Ki (Za t a b) (Nc t ax bx):=λenv o e h=>by
 cases h1:t env with
 |none=>simp only[Za,h1]at h;cases h
 |some k=>
  cases k with
  |true=>simp only[Za,h1]at h;simp only[Nc,h1];exact ha env o e h
  |false=>simp only[Za,h1]at h;simp only[Nc,h1];exact hb env o e h
theorem Dl{c:Nat}:Ki Bi (Lh c):=λenv o e h=>by cases h
theorem Ae{φ:V0}{Kw:Fx}{es:List Ex}(hf:df φ Kw):Ki (md (Fa φ es)) (Ab Kw es):=λenv o e h=>by
 unfold md Fa at h;unfold Ab dg;cases h1:evs es env with
 |none=>rw[h1]at h;cases h
 |some ds=>
  rw[h1]at h;simp only at h |-;cases h2:φ ds with
  |none=>rw[h2]at h;cases h
  |some d=>rw[h2]at h;cases h;rw[hf ds d h2]
theorem mI{g:Tg}{it:Lx}{b:St}{bx:Sx}(hb:Ki b bx):Ki (yb g it b) (zm g it bx):=by
 have go:∀(ds:W0) env o e,forL g b ds env=some (o,e)->Wg g bx ds env=some (.ok o,e):=by
  intro ds;induction ds with
  |nil=>intro env o e h;cases h;rfl
  |cons d ds ih=>
   intro env o e h;unfold forL at h;unfold Wg;cases h1:g d env with
   |none=>rw[h1]at h;cases h
   |some e0=>
    rw[h1]at h;simp only at h |-;cases h2:b e0 with
    |none=>rw[h2]at h;cases h
    |some p=>
     obtain⟨o1,e1⟩:=p;rw[h2]at h;rw[hb e0 o1 e1 h2];cases o1 with
     |nx=>exact ih _ _ _ h
     |ct=>exact ih _ _ _ h
     |bk=>cases h;rfl
     |rt d=>cases h;rfl
 intro env o e h;unfold yb at h;unfold zm;cases h1:it env with
 |none=>rw[h1]at h;cases h
 |some ds=>rw[h1]at h;exact go ds env o e h
theorem Gf{p n:Nat}{g:St}{gx:Sx}(h:Ki g gx):df (run p n g) (Zc p n gx):=λds d e=>by
 unfold run at e;unfold Zc;split at e
 .rename_i hp;rw[Q1 hp];split at e
  .rename_i d' e' h1;cases e;rw[h _ _ _ h1]
  .rename_i e' h1;cases e;rw[h _ _ _ h1]
  .cases e
 .cases e
theorem Mw:df Vn Bm:=Gf (Hd se (Hd (le_if Dl se) (mI (Hd (le_if Dl se) (le_if Dl se)))))
theorem We:df Ff Me:=Gf (Hd (Ae Mw) (le_if Dl se))
theorem Ot:df Xn Ei:=Gf (le_if Dl se)
theorem Nw:df tt io:=Gf (Hd (le_if Dl se) (le_if Dl se))
theorem nI:df nG kt:=Gf (Hd (Ae Mw) se)
theorem oI:df yG qt:=Gf (Hd (Ae Mw) se)
theorem eW:df oG gq:=Gf (Hd (Ae We) se)
theorem fW:df CG lq:=Gf (Hd (Ae We) se)
theorem gW:df sG jq:=Gf (Hd (Ae We) se)
theorem hW:df tG kq:=Gf (Hd (Ae We) se)
theorem iW:df pG Yn:=Gf (Hd (Ae We) (Hd (Ae Ot) se))
theorem jW:df qG Zn:=Gf (Hd (Ae We) (Hd (Ae Ot) se))
theorem kW:df rG ao:=Gf (Hd (Ae We) (Hd (Ae Ot) se))
theorem lW:df AG bo:=Gf (Hd (Ae We) (Hd (mI (Ae Ot)) se))
theorem mW:df DG jo:=Gf (Hd (Ae We) (Hd (Ae Nw) se))
theorem nW:df EG ko:=Gf (Hd (Ae We) (Hd (Ae Nw) se))
theorem oW:df FG ml:=Gf (Hd (Ae We) (Hd (Ae Nw) (Hd (le_if Dl se) se)))
theorem pI:df wG Sj:=Gf (Hd (Ae We) (Hd (Ae We) se))
theorem pW:df xG Fi:=Gf (Hd (Ae We) (Hd (Ae We) (Hd se (Hd (le_if Dl se) se))))
noncomputable def oj(T:J0)(r:K0):Bool:=decide (r.length=T.length)&&r.all λx=>decide (0<=x)&&decide (x<T.length)
theorem cB{T:J0}(x:Int):Xg [la T,.int x]=some (.bl (decide (0<=x)&&decide (x<T.length))):=by
 refine Pd rfl (vc (Ou (Gy (AM (Ha rfl (Ha rfl ⟨λh=>Ey (Ha rfl (By (am rfl ?_))),λh=>?_⟩))))))
 .rw[h,Bool.true_and];rfl
 .rw[h,Bool.false_and];rfl
theorem qI{T:J0}(hT:∀r∈T,r.length<=1000)(b:Sx)(hb:b=(jb (Nc (Cd (za Ta (aa 2)) (aa 1)) (Lh 0) (Kb Qa)) (Nc (Ye (tB (za Pf (cb 3 (Db (aa 2)) xb (Fa Xg [aa 0,aa 3]))))) (Lh 0) (Kb Qa)))):∀(R:J0) (z2 z3:Sl),(∀r∈R,r∈T)->(∃r∈R,oj T r=false)->∃e,Wg (gN 2) b (R.map ma) [.sh (la T),.sh (.int T.length),z2,z3]=some (.ex 0,e)
 |[],z2,z3,_,h=>by obtain⟨r,hr,_⟩:=h;cases hr
 |r::R,z2,z3,h,hx=>by
  have hl:=hT r (h r (by simp));have one:wx b [.sh (la T),.sh (.int T.length),.sh (ma r),z3] λo e=>(o=.ok .nx/\e=[.sh (la T),.sh (.int T.length),.sh (ma r),z3]/\oj T r=true)\/(o=.ex 0/\oj T r=false):=by
   rw[hb];refine Sf (Bl (xp (gm (Xc rfl (Ha rfl ⟨λh1=>Bq (.inr ⟨rfl,?_⟩),λh1=>Zg (Qf ?_)⟩)))))
   .have h1:¬((r.length:Int)=T.length):=by simpa using h1
    have:r.length≠T.length:=by omega
    unfold oj;rw[O2 this];rfl
   .have h1:(r.length:Int)=T.length:=by simpa using h1
    have h1:r.length=T.length:=by omega
    refine Bl (yp (Jk (Ar (r:=r) (λx=>decide (0<=x)&&decide (x<T.length)) (xg rfl) (by rw[yc];omega) (λx m=>Ya ((uc rfl rfl).trans (cB x)) rfl) ?_)));unfold oj;rw[K2 h1,Bool.true_and];refine⟨λe=>Bq (.inr ⟨rfl,by simpa using e⟩),λe=>Zg (Qf (.inl ⟨rfl,rfl,by simpa using e⟩))⟩
  obtain⟨o,e,h1,p⟩:=one;show ∃e,Wg (gN 2) b (ma r::R.map ma) [.sh (la T),.sh (.int T.length),z2,z3]=some (.ex 0,e);rcases p with⟨rfl,rfl,hk⟩|⟨rfl,hk⟩
  .obtain⟨e,h2⟩:=qI hT b hb R (.sh (ma r)) z3 (λq hq=>h q (by simp[hq])) (by
    obtain⟨q,hq,Do⟩:=hx;rcases T1.mp hq with rfl|hq
    .rw[hk]at Do;cases Do
    .exact⟨q,hq,Do⟩)
   exact⟨e,by simp only[Wg,gN,l8,k8,h1,h2]⟩
  .exact⟨e,by simp only[Wg,gN,l8,k8,h1]⟩
theorem qW{T:J0}(hT:∀r∈T,r.length<=1000)(hb:T.length<1\/12<T.length\/∃r∈T,oj T r=false):Bm [la T]=some (.inr 0):=by
 refine cf rfl (Sf (Zg (Bc (zb.ev (By (am rfl ?_))))));refine Sf (Bl (DM (Ey (Ha rfl (Ha rfl ⟨λ_=>⟨λ_=>Bq rfl,λe=>by cases e⟩,λh0=>vp (Ha rfl (Ha rfl ⟨λh=>Bq rfl,λh=>Zg (Qf ?_)⟩))⟩)))));have h0:=Q3 h0;have h:=Q3 h;obtain⟨e,h1⟩:=qI hT _ rfl T .un .un (λr hr=>hr) (by
  rcases hb with h|h|h
  .omega
  .omega
  .exact h)
 refine⟨.ex 0,e,?_,rfl⟩;show zm _ _ _ _=_;unfold zm;rw[show Db (aa 0) _=some (T.map ma)from Hj rfl];exact h1
theorem qj{φ:Fx}{es:List Ex}{env:Env}{c:Nat}{b:Sx}(h:dg φ es env=some (.inr c)):jb (Ab φ es) b env=some (.ex c,env):=Iw (by simp only[Ab,h])
theorem Li{φ:Fx}{es:List Ex}{env:Env}{d:D}{b:Sx}(h:dg φ es env=some (.inl d)):jb (Ab φ es) b env=b env:=bI (by simp only[Ab,h])
theorem rW{t:D}{c:Nat}(h:Bm [t]=some (.inr c)):Me [t]=some (.inr c):=Gg rfl (qj ((re rfl).trans h))
theorem sW{T:J0}{n:Nat}(hT:Tab T n)(hf:Yg T n≠.non):Me [la T]=some (.inr 1):=by
 refine Gg rfl ((Li ((re rfl).trans (Mw _ _ (fw hT)))).trans ((Jw ?_).trans rfl));refine(CM (P:=(·=true)) (Ya ((Nd rfl).trans (zA hT)) ?_)).eq;cases h:Yg T n with
 |non=>exact absurd h hf
 |_=>rfl
theorem sI{T:J0}{n:Nat}(hT:Tab T n){x:Int}(hx:¬El n x):Ei [la T,.int x]=some (.inr 2):=by
 refine Gg rfl ((Jw ?_).trans rfl);refine(yp (P:=(·=true)) (Jk (Ya ((uc rfl rfl).trans (cB x)) ⟨_,rfl,?_⟩))).eq;rw[hT.len];have:(decide (0<=x)&&decide (x<n))=false:=by rw[v8];intro h;simp only[Z2,N2]at h;exact hx h
 rw[this];rfl
theorem uW{T:J0}{n s:Nat}(G:Pa T n s){r:K0}(hl:r.length<=100)(hs:¬Sg T n s r):io [la T,ma r]=some (.inr 3):=by
 refine cf rfl (Sf (Bl (yp (Jk (Ar (r:=r) (λx=>decide (0<=x)&&decide (x<T.length)) (xg rfl) (by rw[yc];omega) (λx m=>Ya ((uc rfl rfl).trans (cB x)) rfl) ⟨λe=>Bq rfl,λe=>Zg (Qf ?_)⟩)))));have Ko:∀x∈r,El n x:=λx hx=>by
  have e:(r.all λx=>decide (0<=x)&&decide (x<T.length))=true:=by simpa using e
  have:=G3.mp e x hx;simp only[Z2,N2]at this;rw[G.tab.len]at this;exact this
 obtain⟨q,eq,Lq⟩:=Fm G (S:=r) Ko hl;refine Bl (Fy (Xc ((uc rfl rfl).trans eq) (Xc rfl ⟨λ_=>Bq rfl,λh=>?_⟩)));have h:q=r:=by simpa using h
 subst h;exact absurd Lq.sg hs
theorem vW{T:J0}{n s:Nat}(G:Pa T n s){x:Int}(hx:¬El n x):bo [la T,.lst [.int 0,.int x]]=some (.inr 2):=by
 have h0:=Ot _ _ (Et G (a:=0) G.tab.pos);have h1:=sI G.tab hx;refine Gg rfl (e1:=[.sh (la T),.sh (.lst [.int 0,.int x]),.sh (.int x)]) ((Li ((re rfl).trans (We _ _ (Ue G)))).trans (Iw ?_));have e0:Ab Ei [aa 0,aa 2] [.sh (la T),.sh (.lst [.int 0,.int x]),.sh (.int 0)]=some (.ok .nx,[.sh (la T),.sh (.lst [.int 0,.int x]),.sh (.int 0)]):=by have c0:dg Ei [aa 0,aa 2] [.sh (la T),.sh (.lst [.int 0,.int x]),.sh (.int 0)]=some (.inl .non):=(ah (x:=la T) (y:=.int 0) rfl rfl).trans h0;simp only[Ab,c0]
 have e1:Ab Ei [aa 0,aa 2] [.sh (la T),.sh (.lst [.int 0,.int x]),.sh (.int x)]=some (.ex 2,[.sh (la T),.sh (.lst [.int 0,.int x]),.sh (.int x)]):=by have c1:dg Ei [aa 0,aa 2] [.sh (la T),.sh (.lst [.int 0,.int x]),.sh (.int x)]=some (.inr 2):=(ah (x:=la T) (y:=.int x) rfl rfl).trans h1;simp only[Ab,c1]
 show Wg (gN 2) _ [.int 0,.int x] [.sh (la T),.sh (.lst [.int 0,.int x]),.un]=_;simp only[Wg,gN,l8,k8,e0,e1]
theorem wW{T:J0}{n s:Nat}(G:Pa T n s){r:K0}(h:Sg T n s r):(∃d,ml [la T,ma r]=some (.inl d))\/ml [la T,ma r]=some (.inr 4):=by
 cases hb:yq T n r with
 |true=>obtain⟨P,p⟩:=GV G h;exact .inl ⟨_,oW _ _ (SV G h (VH.mp hb) p)⟩
 |false=>refine .inr (Gg rfl ((Li ((re rfl).trans (We _ _ (Ue G)))).trans ((Li ((ah rfl rfl).trans (Nw _ _ (Ew G h)))).trans (Iw ((Jw ?_).trans rfl)))));exact(yp (P:=(·=true)) (Jk (Ya ((uc rfl rfl).trans (WA G h)) ⟨_,rfl,by rw[hb];rfl⟩))).eq
theorem tI{A B:J0}{n m s s':Nat}(GA:Pa A n s)(GB:Pa B m s'):(∃d,Fi [la A,la B]=some (.inl d))\/Fi [la A,la B]=some (.inr 5):=by
 by_cases Pq:n*m<=12
 .exact .inl ⟨_,pW _ _ (YV GA GB Pq)⟩
 .refine .inr (Gg rfl ((Li ((re rfl).trans (We _ _ (Ue GA)))).trans ((Li ((re rfl).trans (We _ _ (Ue GB)))).trans ((bI (TV (size_eq GA GB _ _ _ _))).trans (Iw ((Jw ?_).trans rfl))))));exact(vp (P:=(·=true)) (Ha rfl (Ha rfl (by simp;omega)))).eq
noncomputable def bh:J0:=[[0,1],[1,0]]
theorem Cq:Pa bh 2 0:=oH (T:=bh) ⟨rfl,by decide,by decide,by decide,by decide⟩ (by decide)
noncomputable def Km(k:Nat)(t e p:D):Option (D⊕Nat):=match k with
 |0=>kt [t]
 |1=>qt [t]
 |2=>gq [t]
 |3=>lq [t]
 |4=>jq [t]
 |5=>kq [t]
 |6=>Yn [t,e]
 |7=>Zn [t,e]
 |8=>ao [t,e,.int 5]
 |9=>bo [t,.lst [.int 0,e]]
 |10=>jo [t,p]
 |11=>ko [t,p]
 |12=>ml [t,p]
 |13=>Sj [t,la bh]
 |14=>Sj [la bh,t]
 |15=>Fi [t,la bh]
 |16=>Fi [la bh,t]
 |_=>none
theorem xW{t:D}{c:Nat}(h:Bm [t]=some (.inr c))(e p:D):∀k,k<17->Km k t e p=some (.inr c):=by
 have hf:=rW h;have hg:=We _ _ (Ue Cq);have one:∀{φ:Fx} {p:Nat} {n:Nat} {b:Sx} {ds:W0},φ=Zc p n (jb (Ab Me [aa 0]) b)->ds.length=p->aa 0 (enter n ds)=some t->φ ds=some (.inr c):=λhφ hp h0=>by rw[hφ];exact Gg hp (qj ((re h0).trans hf))
 intro k hk
 match k,hk with
 |0,_=>show kt [t]=_;exact Gg rfl (qj ((re rfl).trans h))
 |1,_=>show qt [t]=_;exact Gg rfl (qj ((re rfl).trans h))
 |2,_=>show gq [t]=_;exact one rfl rfl rfl
 |3,_=>show lq [t]=_;exact one rfl rfl rfl
 |4,_=>show jq [t]=_;exact one rfl rfl rfl
 |5,_=>show kq [t]=_;exact one rfl rfl rfl
 |6,_=>show Yn [t,e]=_;exact one rfl rfl rfl
 |7,_=>show Zn [t,e]=_;exact one rfl rfl rfl
 |8,_=>show ao [t,e,.int 5]=_;exact one rfl rfl rfl
 |9,_=>show bo [t,.lst [.int 0,e]]=_;exact one rfl rfl rfl
 |10,_=>show jo [t,p]=_;exact one rfl rfl rfl
 |11,_=>show ko [t,p]=_;exact one rfl rfl rfl
 |12,_=>show ml [t,p]=_;exact one rfl rfl rfl
 |13,_=>show Sj [t,la bh]=_;exact one rfl rfl rfl
 |14,_=>show Sj [la bh,t]=_;exact Gg rfl ((Li ((re rfl).trans hg)).trans (qj ((re rfl).trans hf)))
 |15,_=>show Fi [t,la bh]=_;exact one rfl rfl rfl
 |16,_=>show Fi [la bh,t]=_;exact Gg rfl ((Li ((re rfl).trans hg)).trans (qj ((re rfl).trans hf)))
 |n+17,h=>exact absurd h (by omega)
theorem yW{T:J0}{n:Nat}(hT:Tab T n)(hf:Yg T n≠.non)(e p:D):∀k,k<17->(k<2->∃d,Km k (la T) e p=some (.inl d))/\(2<=k->Km k (la T) e p=some (.inr 1)):=by
 have hf:=sW hT hf;have hg:=We _ _ (Ue Cq);have one:∀{φ:Fx} {p:Nat} {n:Nat} {b:Sx} {ds:W0},φ=Zc p n (jb (Ab Me [aa 0]) b)->ds.length=p->aa 0 (enter n ds)=some (la T)->φ ds=some (.inr 1):=λhφ hp h0=>by rw[hφ];exact Gg hp (qj ((re h0).trans hf))
 intro k hk;refine⟨λh2=>?_,λh2=>?_⟩
 .match k,h2 with
  |0,_=>exact⟨_,nI _ _ (VG hT)⟩
  |1,_=>exact⟨_,oI _ _ (kI hT)⟩
  |n+2,h=>exact absurd h (by omega)
 .match k,hk,h2 with
  |2,_,_=>show gq [la T]=_;exact one rfl rfl rfl
  |3,_,_=>show lq [la T]=_;exact one rfl rfl rfl
  |4,_,_=>show jq [la T]=_;exact one rfl rfl rfl
  |5,_,_=>show kq [la T]=_;exact one rfl rfl rfl
  |6,_,_=>show Yn [la T,e]=_;exact one rfl rfl rfl
  |7,_,_=>show Zn [la T,e]=_;exact one rfl rfl rfl
  |8,_,_=>show ao [la T,e,.int 5]=_;exact one rfl rfl rfl
  |9,_,_=>show bo [la T,.lst [.int 0,e]]=_;exact one rfl rfl rfl
  |10,_,_=>show jo [la T,p]=_;exact one rfl rfl rfl
  |11,_,_=>show ko [la T,p]=_;exact one rfl rfl rfl
  |12,_,_=>show ml [la T,p]=_;exact one rfl rfl rfl
  |13,_,_=>show Sj [la T,la bh]=_;exact one rfl rfl rfl
  |14,_,_=>show Sj [la bh,la T]=_;exact Gg rfl ((Li ((re rfl).trans hg)).trans (qj ((re rfl).trans hf)))
  |15,_,_=>show Fi [la T,la bh]=_;exact one rfl rfl rfl
  |16,_,_=>show Fi [la bh,la T]=_;exact Gg rfl ((Li ((re rfl).trans hg)).trans (qj ((re rfl).trans hf)))
  |n+17,h,_=>exact absurd h (by omega)
noncomputable def Yj:D⊕Nat->Str
 |.inl _=>"done"
 |.inr 0=>"table"
 |.inr 1=>"folk"
 |.inr 2=>"element"
 |.inr 3=>"part"
 |.inr 4=>"loose"
 |.inr 5=>"large"
 |.inr _=>"note"
theorem zW{c:Nat}(h:c<6):vt c=some (.str (Yj (.inr c))):=by
 match c,h with
 |0,_=>rfl
 |1,_=>rfl
 |2,_=>rfl
 |3,_=>rfl
 |4,_=>rfl
 |5,_=>rfl
 |n+6,h=>exact absurd h (by omega)
theorem Jd{k j:Int}{A B:Sx}{env:Env}{Q:XO->Env->Prop}(h0:aa 0 env=some (.int k))(hk:k≠j)(h:wx B env Q):wx (jb (Nc (Ra (aa 0) (eC (.int j))) A (Kb Qa)) B) env Q:=
 Sf (Bl (Bf (Ha h0 (Ha rfl ⟨λe=>absurd (X2 e) hk,λ_=>Zg (Qf h)⟩))))
theorem dh{k j:Int}{A B:Sx}{env:Env}{Q:XO->Env->Prop}(h0:aa 0 env=some (.int k))(hk:k=j)(h:wx A env (lI B Q)):wx (jb (Nc (Ra (aa 0) (eC (.int j))) A (Kb Qa)) B) env Q:=
 Sf (Bl (Bf (Ha h0 (Ha rfl ⟨λ_=>h,λe=>absurd hk (Q3 e)⟩))))
theorem ig{k j:Int}{A:Sx}{env:Env}{Q:XO->Env->Prop}(h0:aa 0 env=some (.int k))(hk:k≠j)(h:Q (.ok .nx) env):wx (Nc (Ra (aa 0) (eC (.int j))) A (Kb Qa)) env Q:=
 Bl (Bf (Ha h0 (Ha rfl ⟨λe=>absurd (X2 e) hk,λ_=>Zg (Qf h)⟩)))
theorem uI{k j:Int}{A:Sx}{env:Env}{Q:XO->Env->Prop}(h0:aa 0 env=some (.int k))(hk:k=j)(h:wx A env Q):wx (Nc (Ra (aa 0) (eC (.int j))) A (Kb Qa)) env Q:=
 Bl (Bf (Ha h0 (Ha rfl ⟨λ_=>h,λe=>absurd hk (Q3 e)⟩)))
noncomputable def vI:D⊕Nat->D⊕Nat
 |.inl _=>.inl .non
 |.inr c=>.inr c
theorem AW{t e p:D}:∀(k:Nat),k<10->∀r,Km k t e p=some r->oo [.int k,t,e]=some (vI r):=by
 intro k hk r h
 match k,hk with
 |0,_=>
  refine cf rfl ?_;refine dh rfl rfl (Fe ((re rfl).trans h) (λd hd=>?_) λc hc=>by subst hc;rfl);subst hd
  repeat (refine Jd (k:=0) rfl (by decide) ?_)
  exact ig (k:=0) rfl (by decide) rfl
 |1,_=>
  refine cf rfl ?_
  repeat (refine Jd (k:=1) rfl (by decide) ?_)
  refine dh (k:=1) rfl rfl (Fe ((re rfl).trans h) (λd hd=>?_) λc hc=>by subst hc;rfl);subst hd
  repeat (refine Jd (k:=1) rfl (by decide) ?_)
  exact ig (k:=1) rfl (by decide) rfl
 |2,_=>
  refine cf rfl ?_
  repeat (refine Jd (k:=2) rfl (by decide) ?_)
  refine dh (k:=2) rfl rfl (Fe ((re rfl).trans h) (λd hd=>?_) λc hc=>by subst hc;rfl);subst hd
  repeat (refine Jd (k:=2) rfl (by decide) ?_)
  exact ig (k:=2) rfl (by decide) rfl
 |3,_=>
  refine cf rfl ?_
  repeat (refine Jd (k:=3) rfl (by decide) ?_)
  refine dh (k:=3) rfl rfl (Fe ((re rfl).trans h) (λd hd=>?_) λc hc=>by subst hc;rfl);subst hd
  repeat (refine Jd (k:=3) rfl (by decide) ?_)
  exact ig (k:=3) rfl (by decide) rfl
 |4,_=>
  refine cf rfl ?_
  repeat (refine Jd (k:=4) rfl (by decide) ?_)
  refine dh (k:=4) rfl rfl (Fe ((re rfl).trans h) (λd hd=>?_) λc hc=>by subst hc;rfl);subst hd
  repeat (refine Jd (k:=4) rfl (by decide) ?_)
  exact ig (k:=4) rfl (by decide) rfl
 |5,_=>
  refine cf rfl ?_
  repeat (refine Jd (k:=5) rfl (by decide) ?_)
  refine dh (k:=5) rfl rfl (Fe ((re rfl).trans h) (λd hd=>?_) λc hc=>by subst hc;rfl);subst hd
  repeat (refine Jd (k:=5) rfl (by decide) ?_)
  exact ig (k:=5) rfl (by decide) rfl
 |6,_=>
  refine cf rfl ?_
  repeat (refine Jd (k:=6) rfl (by decide) ?_)
  refine dh (k:=6) rfl rfl (Fe ((ah rfl rfl).trans h) (λd hd=>?_) λc hc=>by subst hc;rfl);subst hd
  repeat (refine Jd (k:=6) rfl (by decide) ?_)
  exact ig (k:=6) rfl (by decide) rfl
 |7,_=>
  refine cf rfl ?_
  repeat (refine Jd (k:=7) rfl (by decide) ?_)
  refine dh (k:=7) rfl rfl (Fe ((ah rfl rfl).trans h) (λd hd=>?_) λc hc=>by subst hc;rfl);subst hd
  repeat (refine Jd (k:=7) rfl (by decide) ?_)
  exact ig (k:=7) rfl (by decide) rfl
 |8,_=>
  refine cf rfl ?_
  repeat (refine Jd (k:=8) rfl (by decide) ?_)
  refine dh (k:=8) rfl rfl (Fe ((bB rfl rfl rfl).trans h) (λd hd=>?_) λc hc=>by subst hc;rfl);subst hd;exact ig (k:=8) rfl (by decide) rfl
 |9,_=>
  refine cf rfl ?_
  repeat (refine Jd (k:=9) rfl (by decide) ?_)
  refine uI (k:=9) rfl rfl (Fe ((ah rfl rfl).trans h) (λd hd=>by subst hd;rfl) λc hc=>by subst hc;rfl)
 |n+10,h=>exact absurd h (by omega)
theorem BW{t e:D}{k:Nat}(hk:10<=k):oo [.int k,t,e]=some (.inl .non):=by
 refine cf rfl ?_
 repeat (refine Jd (k:=(k:Int)) rfl (by omega) ?_)
 exact ig (k:=(k:Int)) rfl (by omega) rfl
theorem CW{t p:D}{k:Nat}(hk:k<10):qo [.int k,t,p]=some (.inl .non):=by
 refine cf rfl (Sf (Zg (Bc (Ya rfl ?_))))
 repeat (refine Jd (k:=(k:Int)) rfl (by omega) ?_)
 exact ig (k:=(k:Int)) rfl (by omega) rfl
theorem DW{t e p:D}:∀(k:Nat),10<=k->k<17->∀r,Km k t e p=some r->qo [.int k,t,p]=some (vI r):=by
 intro k Ix hk r h;have hg:∀z:D,Xa [Xa [eC (.int 0),eC (.int 1)],Xa [eC (.int 1),eC (.int 0)]] (enter 4 [z,t,p])=some (la bh):=λz=>rfl
 match k,Ix,hk with
 |10,_,_=>
  refine cf rfl (Sf (Zg (Bc (Ya (hg _) ?_))))
  repeat (refine Jd (k:=10) rfl (by decide) ?_)
  refine dh (k:=10) rfl rfl (Fe ((ah rfl rfl).trans h) (λd hd=>?_) λc hc=>by subst hc;rfl);subst hd
  repeat (refine Jd (k:=10) rfl (by decide) ?_)
  exact ig (k:=10) rfl (by decide) rfl
 |11,_,_=>
  refine cf rfl (Sf (Zg (Bc (Ya (hg _) ?_))))
  repeat (refine Jd (k:=11) rfl (by decide) ?_)
  refine dh (k:=11) rfl rfl (Fe ((ah rfl rfl).trans h) (λd hd=>?_) λc hc=>by subst hc;rfl);subst hd
  repeat (refine Jd (k:=11) rfl (by decide) ?_)
  exact ig (k:=11) rfl (by decide) rfl
 |12,_,_=>
  refine cf rfl (Sf (Zg (Bc (Ya (hg _) ?_))))
  repeat (refine Jd (k:=12) rfl (by decide) ?_)
  refine dh (k:=12) rfl rfl (Fe ((ah rfl rfl).trans h) (λd hd=>?_) λc hc=>by subst hc;rfl);subst hd
  repeat (refine Jd (k:=12) rfl (by decide) ?_)
  exact ig (k:=12) rfl (by decide) rfl
 |13,_,_=>
  refine cf rfl (Sf (Zg (Bc (Ya (hg _) ?_))))
  repeat (refine Jd (k:=13) rfl (by decide) ?_)
  refine dh (k:=13) rfl rfl (Fe ((ah rfl rfl).trans h) (λd hd=>?_) λc hc=>by subst hc;rfl);subst hd
  repeat (refine Jd (k:=13) rfl (by decide) ?_)
  exact ig (k:=13) rfl (by decide) rfl
 |14,_,_=>
  refine cf rfl (Sf (Zg (Bc (Ya (hg _) ?_))))
  repeat (refine Jd (k:=14) rfl (by decide) ?_)
  refine dh (k:=14) rfl rfl (Fe ((ah rfl rfl).trans h) (λd hd=>?_) λc hc=>by subst hc;rfl);subst hd
  repeat (refine Jd (k:=14) rfl (by decide) ?_)
  exact ig (k:=14) rfl (by decide) rfl
 |15,_,_=>
  refine cf rfl (Sf (Zg (Bc (Ya (hg _) ?_))))
  repeat (refine Jd (k:=15) rfl (by decide) ?_)
  refine dh (k:=15) rfl rfl (Fe ((ah rfl rfl).trans h) (λd hd=>?_) λc hc=>by subst hc;rfl);subst hd
  repeat (refine Jd (k:=15) rfl (by decide) ?_)
  exact ig (k:=15) rfl (by decide) rfl
 |16,_,_=>
  refine cf rfl (Sf (Zg (Bc (Ya (hg _) ?_))))
  repeat (refine Jd (k:=16) rfl (by decide) ?_)
  refine uI (k:=16) rfl rfl (Fe ((ah rfl rfl).trans h) (λd hd=>by subst hd;rfl) λc hc=>by subst hc;rfl)
 |n+17,_,h=>exact absurd h (by omega)
theorem EW{t e p:D}{k:Nat}(hk:k<17){r:D⊕Nat}(h:Km k t e p=some r)(hr:∀c,r=.inr c->c<6):pq [.int k,t,e,p]=some (.str (Yj r)):=by
 have c1:dg oo [aa 0,aa 1,aa 2] (enter 5 [.int k,t,e,p])=oo [.int k,t,e]:=bB rfl rfl rfl;have c2:dg qo [aa 0,aa 1,aa 3] (enter 5 [.int k,t,e,p])=qo [.int k,t,p]:=bB rfl rfl rfl;have key:wx (jb (Ab oo [aa 0,aa 1,aa 2]) (Ab qo [aa 0,aa 1,aa 3])) (enter 5 [.int k,t,e,p]) λo e'=>match r with
   |.inl _=>o=.ok .nx
   |.inr c=>o=.ex c:=by
  by_cases Ix:k<10
  .have f1:=c1.trans (AW k Ix r h);have f2:=c2.trans (CW (t:=t) (p:=p) Ix);cases r with
   |inl d=>exact Sf (Fe f1 (λ_ _=>Fe f2 (λ_ _=>rfl) λ_ q=>by cases q) λ_ q=>by cases q)
   |inr c=>exact Sf (Fe f1 (λ_ q=>by cases q) λc' q=>by cases q;rfl)
  .have f1:=c1.trans (BW (t:=t) (e:=e) (by omega));have f2:=c2.trans (DW k (by omega) hk r h);cases r with
   |inl d=>exact Sf (Fe f1 (λ_ _=>Fe f2 (λ_ _=>rfl) λ_ q=>by cases q) λ_ q=>by cases q)
   |inr c=>exact Sf (Fe f1 (λ_ _=>Fe f2 (λ_ q=>by cases q) λc' q=>by cases q;rfl) λ_ q=>by cases q)
 obtain⟨o,e',h1,p'⟩:=key;cases r with
 |inl d=>have p':o=.ok .nx:=p';subst p';refine Pd rfl (wp_seq ⟨.nx,e',?_,vc (Ya rfl rfl)⟩);simp only[Ws,h1]
 |inr c=>have p':o=.ex c:=p';subst p';refine Pd rfl (wp_seq ⟨.rt (.str (Yj (.inr c))),e'.map λ_=>.un,?_,rfl⟩);simp only[Ws,h1,zW (hr c rfl)]
theorem wI{T:J0}{s:Nat}(G:Pa T 2 s):T=[[0,1],[1,0]]\/T=[[1,0],[0,1]]:=by
 have hl:=G.tab.len;have hr:=G.tab.row;have hs:=G.lt
 match T,hl with
 |[p,q],_=>
  have hp:=hr p (by simp);have hq:=hr q (by simp)
  match p,q,hp,hq with
  |[a,b],[c,d],_,_=>
   have i0:=G.idl 0 (by omega) (by omega);have i1:=G.idl 1 (by omega) (by omega);have j0:=G.idr 0 (by omega) (by omega);have j1:=G.idr 1 (by omega) (by omega);obtain⟨x,x0,x1,hx,_⟩:=G.inv 0 (by omega) (by omega);obtain⟨y,y0,y1,hy,_⟩:=G.inv 1 (by omega) (by omega);obtain rfl|rfl:s=0\/s=1:=by omega
   all_goals
    obtain rfl|rfl:x=0\/x=1:=by omega
    all_goals
     obtain rfl|rfl:y=0\/y=1:=by omega
     all_goals
      simp[tg]at i0 i1 j0 j1 hx hy |-
      try omega
theorem xI{A B:J0}{n n' s s':Nat}(GA:Pa A n s)(GB:Pa B n' s')(h2:n=2\/n'=2):∃d,wG [la A,la B]=some d:=by
 by_cases pZ:n=n'
 .subst pZ;obtain rfl:n=2:=by omega
  apply l7.1;rcases wI GA with rfl|rfl<;>rcases wI GB with rfl|rfl<;>decide +kernel
 .refine⟨.non,Pd rfl (wp_seq (Rf (Ya ((Nd rfl).trans (Ue GA)) ?_)))⟩;refine wp_seq (Rf (Ya ((Nd rfl).trans (Ue GB)) ?_));exact wp_seq (bg (xp (Ha (Ad GA.tab rfl) (Ha (Ad GB.tab rfl) ⟨λ_=>vc (Ya rfl rfl),λh=>absurd h (by simp;omega)⟩))))
theorem GW{T:J0}{n s:Nat}(G:Pa T n s)(few:vw T n s)(x:Int){r:K0}(hl:r.length<=100):∀k,k<17->∃v,Km k (la T) (.int x) (ma r)=some v/\((∃d,v=.inl d)/\((6<=k/\k<10)->El n x)/\((10<=k/\k<13)->Sg T n s r)\/(6<=k/\k<10/\¬El n x/\v=.inr 2)\/(10<=k/\k<13/\¬Sg T n s r/\v=.inr 3)\/(k=12/\Sg T n s r/\v=.inr 4)\/(15<=k/\v=.inr 5)):=by
 have ff:=We _ _ (Ue G);have two:∀{φ:Fx} {p m:Nat} {b:Sx} {ds:W0},¬El n x->φ=Zc p m (jb (Ab Me [aa 0]) (jb (Ab Ei [aa 0,aa 1]) b))->ds.length=p->aa 0 (enter m ds)=some (la T)->aa 1 (enter m ds)=some (.int x)->φ ds=some (.inr 2):=λhx hφ hp h0 h1=>by rw[hφ];exact Gg hp ((Li ((re h0).trans ff)).trans (qj ((ah h0 h1).trans (sI G.tab hx))))
 have dB:∀{φ:Fx} {p m:Nat} {b:Sx} {ds:W0},¬Sg T n s r->φ=Zc p m (jb (Ab Me [aa 0]) (jb (Ab io [aa 0,aa 1]) b))->ds.length=p->aa 0 (enter m ds)=some (la T)->aa 1 (enter m ds)=some (ma r)->φ ds=some (.inr 3):=λhx hφ hp h0 h1=>by rw[hφ];exact Gg hp ((Li ((re h0).trans ff)).trans (qj ((ah h0 h1).trans (uW G hl hx))))
 intro k hk
 match k,hk with
 |0,_=>exact⟨_,nI _ _ (VG G.tab),.inl ⟨⟨_,rfl⟩,by omega,by omega⟩⟩
 |1,_=>exact⟨_,oI _ _ (kI G.tab),.inl ⟨⟨_,rfl⟩,by omega,by omega⟩⟩
 |2,_=>exact⟨_,eW _ _ (rest_eq G),.inl ⟨⟨_,rfl⟩,by omega,by omega⟩⟩
 |3,_=>obtain⟨P,e,_⟩:=cV G few;exact⟨_,fW _ _ e,.inl ⟨⟨_,rfl⟩,by omega,by omega⟩⟩
 |4,_=>exact⟨_,gW _ _ (UU G),.inl ⟨⟨_,rfl⟩,by omega,by omega⟩⟩
 |5,_=>exact⟨_,hW _ _ (WU G),.inl ⟨⟨_,rfl⟩,by omega,by omega⟩⟩
 |6,_=>
  by_cases hx:El n x
  .obtain⟨a,ha,rfl⟩:=hx.nat;obtain⟨b,_,e,_⟩:=back_eq G ha;exact⟨_,iW _ _ e,.inl ⟨⟨_,rfl⟩,λ_=>hx,by omega⟩⟩
  .exact⟨.inr 2,(show Yn [la T,.int x]=_ from two hx rfl rfl rfl rfl),.inr (.inl ⟨by omega,by omega,hx,rfl⟩)⟩
 |7,_=>
  by_cases hx:El n x
  .obtain⟨m,hm,hO⟩:=G.od hx;obtain⟨a,ha,rfl⟩:=hx.nat;exact⟨_,jW _ _ (order_eq G ha hm hO),.inl ⟨⟨_,rfl⟩,λ_=>hx,by omega⟩⟩
  .exact⟨.inr 2,(show Zn [la T,.int x]=_ from two hx rfl rfl rfl rfl),.inr (.inl ⟨by omega,by omega,hx,rfl⟩)⟩
 |8,_=>
  by_cases hx:El n x
  .obtain⟨m,hm,hO⟩:=G.od hx;obtain⟨a,ha,rfl⟩:=hx.nat;exact⟨_,kW _ _ (GU G ha hm hO 5),.inl ⟨⟨_,rfl⟩,λ_=>hx,by omega⟩⟩
  .exact⟨.inr 2,(show ao [la T,.int x,.int 5]=_ from two hx rfl rfl rfl rfl),.inr (.inl ⟨by omega,by omega,hx,rfl⟩)⟩
 |9,_=>
  by_cases hx:El n x
  .obtain⟨q,e,_⟩:=LU G (S:=[0,x]) (λy hy=>by
    rcases T1.mp hy with rfl|hy
    .exact⟨by omega,by have:=G.tab.pos;omega⟩
    .have:y=x:=by simpa using hy
     rw[this];exact hx) (by simp)
   exact⟨_,lW _ _ e,.inl ⟨⟨_,rfl⟩,λ_=>hx,by omega⟩⟩
  .exact⟨.inr 2,vW G hx,.inr (.inl ⟨by omega,by omega,hx,rfl⟩)⟩
 |10,_=>
  by_cases hx:Sg T n s r
  .exact⟨_,mW _ _ (mV G hx),.inl ⟨⟨_,rfl⟩,by omega,λ_=>hx⟩⟩
  .exact⟨.inr 3,(show jo [la T,ma r]=_ from dB hx rfl rfl rfl rfl),.inr (.inr (.inl ⟨by omega,by omega,hx,rfl⟩))⟩
 |11,_=>
  by_cases hx:Sg T n s r
  .exact⟨_,nW _ _ (JV G hx),.inl ⟨⟨_,rfl⟩,by omega,λ_=>hx⟩⟩
  .exact⟨.inr 3,(show ko [la T,ma r]=_ from dB hx rfl rfl rfl rfl),.inr (.inr (.inl ⟨by omega,by omega,hx,rfl⟩))⟩
 |12,_=>
  by_cases hx:Sg T n s r
  .rcases wW G hx with⟨d,e⟩|e
   .exact⟨_,e,.inl ⟨⟨_,rfl⟩,by omega,λ_=>hx⟩⟩
   .exact⟨_,e,.inr (.inr (.inr (.inl ⟨rfl,hx,rfl⟩)))⟩
  .exact⟨.inr 3,(show ml [la T,ma r]=_ from dB hx rfl rfl rfl rfl),.inr (.inr (.inl ⟨by omega,by omega,hx,rfl⟩))⟩
 |13,_=>obtain⟨d,e⟩:=xI G Cq (.inr rfl);exact⟨_,pI _ _ e,.inl ⟨⟨_,rfl⟩,by omega,by omega⟩⟩
 |14,_=>obtain⟨d,e⟩:=xI Cq G (.inl rfl);exact⟨_,pI _ _ e,.inl ⟨⟨_,rfl⟩,by omega,by omega⟩⟩
 |15,_=>
  rcases tI G Cq with⟨d,e⟩|e
  .exact⟨_,e,.inl ⟨⟨_,rfl⟩,by omega,by omega⟩⟩
  .exact⟨_,e,.inr (.inr (.inr (.inr ⟨by omega,rfl⟩)))⟩
 |16,_=>
  rcases tI Cq G with⟨d,e⟩|e
  .exact⟨_,e,.inl ⟨⟨_,rfl⟩,by omega,by omega⟩⟩
  .exact⟨_,e,.inr (.inr (.inr (.inr ⟨by omega,rfl⟩)))⟩
 |n+17,h=>exact absurd h (by omega)
theorem HW{i:Nat}{e:Ex}{env:Env}{Q:Out->Env->Prop}{T:J0}(h:e env=some (la T))(k:Q .nx (env.set i (.tab (yd T)))):wp (Cj i e) env Q:=by refine⟨_,_,?_,k⟩;unfold Cj;rw[h];simp only[la];rw[IA]
theorem Ow{i:Nat}{env:Env}{Q:Out->Env->Prop}{T:J0}(hi:env[i]?=some (.tab (yd T)))(h:Q .nx (env.set i (.sh (la T)))):wp (Yc i) env Q:=by refine⟨_,_,?_,h⟩;simp only[Yc,hi];rw[bH]
theorem fB{T:J0}{k:Nat}(h:k<T.length):(yd T)[k]?=some ((T.getD k []).map .int):=by simp[yd,List.getD,h]
theorem iB{T:J0}{k:Nat}{r:K0}:(yd T).set k (r.map .int)=yd (T.set k r):=by unfold yd;rw[J9]
theorem jB{T:J0}:(yd T).length=T.length:=by simp[yd]
theorem Pt{n k:Nat}(h:k<n):we n (k:Int)=some k:=by unfold we;rw[Q1 (by omega),Q1 (by omega),W3]
theorem yI:∀(l:K0) (k:Nat),(l.map D.int).eraseIdx k=(l.eraseIdx k).map D.int
 |[],_=>rfl
 |x::l,0=>rfl
 |x::l,k+1=>by simp only[V1,D7,yI l k]
theorem zI:∀(l:K0) (k:Nat) (c:Int),(l.map D.int).insertIdx k (.int c)=(l.insertIdx k c).map D.int
 |l,0,c=>by simp
 |[],k+1,c=>by simp
 |x::l,k+1,c=>by simp only[V1,Y4,zI l k c]
theorem IW{e:Ex}{env:Env}{i:K0}(h:Vb e env (·=i)):e env=some (ma i):=let ⟨x,a,b⟩:=h;b▸a
theorem JW{i k j:Nat}{a b:Ex}{env:Env}{Q:Out->Env->Prop}{T:J0}(hi:env[i]?=some (.tab (yd T)))(ha:a env=some (.int k))(hb:b env=some (.int j))(hk:k<T.length)(hj:j<(T.getD k []).length)(hl:(T.getD k []).length<=1000)(h:Q .nx (env.set i (.tab (yd (T.set k ((T.getD k []).eraseIdx j)))))):wp (aq i a b) env Q:=by refine⟨_,_,?_,h⟩;unfold aq;rw[hi,ha,hb];simp only[jB,Pt hk,fB hk];rw[Q1 (by rw[Y0,yc];omega),<-iB,W3];congr 6;exact yI _ _
theorem KW{i k j:Nat}{c:Int}{a b:Ex}{env:Env}{Q:Out->Env->Prop}{T:J0}(hi:env[i]?=some (.tab (yd T)))(ha:a env=some (.int k))(hb:b env=some (.int j))(hk:k<T.length)(hj:j<=(T.getD k []).length)(hl:(T.getD k []).length<=1000)(h:Q .nx (env.set i (.tab (yd (T.set k ((T.getD k []).insertIdx j c)))))):wp (bq i a b c) env Q:=by refine⟨_,_,?_,h⟩;unfold bq;rw[hi,ha,hb];simp only[jB,Pt hk,fB hk];rw[Q1 (by rw[Y0,yc];omega),<-iB,W3];congr 6;exact zI _ _ _
theorem LW{i k j:Nat}{c:Int}{a b e:Ex}{env:Env}{Q:Out->Env->Prop}{T:J0}(hi:env[i]?=some (.tab (yd T)))(he:e env=some (.int c))(ha:a env=some (.int k))(hb:b env=some (.int j))(hk:k<T.length)(hj:j<(T.getD k []).length)(h:Q .nx (env.set i (.tab (yd (T.set k ((T.getD k []).set j c)))))):wp (Ui i a b e) env Q:=by refine⟨_,_,?_,h⟩;unfold Ui;rw[hi,he,ha,hb];simp only[jB,Pt hk,fB hk,Y0,Pt hj];rw[<-iB,J9]
noncomputable def Qt(B:J0):Prop:=(∀r∈B,r.length<=1000)/\B.length<=1000/\(B.length<1\/12<B.length\/∃r∈B,oj B r=false)
theorem kB{B:J0}{r:K0}(h:r.length≠B.length):oj B r=false:=by unfold oj;rw[O2 h];rfl
theorem lB{T:J0}{n k:Nat}(hT:Tab T n)(hk:k<n){r:K0}(hl:r.length<=1000)(hr:oj (T.set k r) r=false):Qt (T.set k r):=by
 have h1:=hT.len;have h2:=hT.top;refine⟨λq hq=>?_,by rw[P2];omega,.inr (.inr ⟨r,?_,hr⟩)⟩
 .rcases g6 hq with h|rfl
  .rw[hT.row q h];omega
  .exact hl
 .exact List.mem_set (by omega) r
theorem MW(ns:K0){T:J0}{n:Nat}(hT:Tab T n){w:Nat}(hw:w<6):∃B,xA [ma ns,la T,.int w]=some (la B)/\Qt B:=by
 have hlen:=hT.len;have fu:=hT.pos;have EJ:=hT.top;obtain⟨at',ni,NW⟩:=Ii (ce ns 4) (show 0<n by omega);obtain⟨to,zJ,OW⟩:=Ii (ce ns 5) (show 0<n by omega);obtain⟨far,Lm⟩:∃far:Int,far=ce ns 6%100000000000000000000000000000000000000:=⟨_,rfl⟩
 have AI:0<=far:=by rw[Lm];omega
 obtain⟨q,hq,eq⟩:=Ii (ce ns 6) (show 0<2 by decide);have hm:T.getD at' []∈T:=by rw[K1,E1 (by omega)];exact N3 _
 have Jx:(T.getD at' []).length=n:=hT.row _ hm;suffices key:∃B,Qt B/\wp wA (enter 10 [ma ns,la T,.int w]) (ends (la B)) by obtain⟨B,h1,h2⟩:=key;exact⟨B,Pd rfl h2,h1⟩
 have pre:∀{B:J0},Qt B->wp (ua (Za (Ra (aa 2) (eC (.int 0))) (Na (Xa [])) Qa) (ua (Za (Ra (aa 2) (eC (.int 1))) (aq 6 (aa 3) (aa 4)) Qa) (ua (Za (Ra (aa 2) (eC (.int 2))) (bq 6 (aa 3) (aa 4) 0) Qa) (ua (Za (Ra (aa 2) (eC (.int 3))) (ua (Yc 6) (Na (ib (aa 6) (Xa [cb 7 (Db (aa 1)) xb (eC (.int 0))])))) Qa) (ua (Za (Ra (aa 2) (eC (.int 4))) (Ui 6 (aa 3) (aa 4) (Ka (Xa [ib (za Ta (aa 1)) (aa 5),Ma Lg (eC (.int (-1))) (aa 5)]) (Ma Gb (Fa qe [aa 0,eC (.int 6)]) (eC (.int 2))))) Qa) (ua (Za (Ra (aa 2) (eC (.int 5))) (Na (cb 9 (vb (eC (.int 13))) xb (cb 8 (vb (eC (.int 13))) xb (Ma Gb (ib (aa 9) (aa 8)) (eC (.int 13)))))) Qa) (ua (Yc 6) (Na (aa 6)))))))))
   [.sh (ma ns),.sh (la T),.sh (.int w),.sh (.int at'),.sh (.int to),.sh (.int far),.tab (yd T),.un,.un,.un] (ends (la B))->∃B,Qt B/\wp wA (enter 10 [ma ns,la T,.int w]) (ends (la B)):=λ{B} hB hw=>by
  refine⟨B,hB,?_⟩;refine wp_seq (Bc (zb.ev (pf (Ha ((uc rfl rfl).trans (Fg ns 4)) (Ha (Ad hT rfl) ⟨by omega,?_⟩)))));rw[show ce ns 4%(n:Int)=(at':Int)from NW];refine wp_seq (Bc (zb.ev (pf (Ha ((uc rfl rfl).trans (Fg ns 5)) (Ha (Ad hT rfl) ⟨by omega,?_⟩)))));rw[show ce ns 5%(n:Int)=(to:Int)from OW];refine wp_seq (Bc (zb.ev (pf (Ha ((uc rfl rfl).trans (Fg ns 6)) (Ay (Ha rfl (Ha rfl ⟨by decide,⟨by decide,?_⟩⟩)))))));rw[show ce ns 6%(10:Int)^(38:Int).toNat=far by rw[Lm];rfl];refine wp_seq (HW ((Nd rfl).trans (WG (T:=T) (by omega))) ?_);exact hw
 have no:∀{j:Int} {a:St} {f:Sl} {Q:Out->Env->Prop},(w:Int)≠j->Q .nx [.sh (ma ns),.sh (la T),.sh (.int w),.sh (.int at'),.sh (.int to),.sh (.int far),f,.un,.un,.un]->wp (Za (Ra (aa 2) (eC (.int j))) a Qa) [.sh (ma ns),.sh (la T),.sh (.int w),.sh (.int at'),.sh (.int to),.sh (.int far),f,.un,.un,.un] Q:=λ{j a f Q} hj h=>
  Gj (Bf (Ha rfl (Ha rfl (O2 hj)))) h
 have yes:∀{j:Int} {a:St} {f:Sl} {Q:Out->Env->Prop},(w:Int)=j->wp a [.sh (ma ns),.sh (la T),.sh (.int w),.sh (.int at'),.sh (.int to),.sh (.int far),f,.un,.un,.un] Q->wp (Za (Ra (aa 2) (eC (.int j))) a Qa) [.sh (ma ns),.sh (la T),.sh (.int w),.sh (.int at'),.sh (.int to),.sh (.int far),f,.un,.un,.un] Q:=λ{j a f Q} hj h=>
  bg (Bf (Ha rfl (Ha rfl ⟨λ_=>h,λe=>absurd hj (Q3 e)⟩)))
 by_cases w0:w=0
 .exact pre (B:=[]) ⟨by simp,by simp,.inl (by simp)⟩ (wp_seq (yes (by omega) (vc (Ya rfl rfl))))
 by_cases w1:w=1
 .refine pre (B:=T.set at' ((T.getD at' []).eraseIdx to)) (lB hT ni (by rw[U8 (by omega)];omega) (kB (by rw[U8 (by omega),P2];omega))) ?_;refine wp_seq (no (by omega) (wp_seq (yes (by omega) (JW rfl rfl rfl (by omega) (by omega) (by omega) ?_))));refine wp_seq (no (by omega) (wp_seq (no (by omega) (wp_seq (no (by omega) (wp_seq (no (by omega) ?_)))))));exact wp_seq (Ow rfl (vc (Ya rfl rfl)))
 by_cases w2:w=2
 .refine pre (B:=T.set at' ((T.getD at' []).insertIdx to 0)) (lB hT ni (by rw[o8 (by omega)];omega) (kB (by rw[o8 (by omega),P2];omega))) ?_;refine wp_seq (no (by omega) (wp_seq (no (by omega) (wp_seq (yes (by omega) (KW rfl rfl rfl (by omega) (by omega) (by omega) ?_))))));refine wp_seq (no (by omega) (wp_seq (no (by omega) (wp_seq (no (by omega) ?_)))));exact wp_seq (Ow rfl (vc (Ya rfl rfl)))
 by_cases w3:w=3
 .have e1:cb 7 (Db (aa 1)) xb (eC (.int 0)) [.sh (ma ns),.sh (la T),.sh (.int w),.sh (.int at'),.sh (.int to),.sh (.int far),.sh (la T),.un,.un,.un]=some (ma (T.map λ_=>0)):=by
   unfold ma;rw[i4];exact Jm T ma _ (Hj rfl) (by rw[yc];omega) λ_ _=>rfl
  refine pre (B:=T++[T.map λ_=>0]) ⟨λr hr=>?_,by simp;omega,.inr (.inr ⟨T.getD at' [],Y2 _ hm,kB (by rw[U2,U5];omega)⟩)⟩ ?_
  .rcases G2.mp hr with h|h
   .rw[hT.row r h];omega
   .have:r=T.map λ_=>0:=by simpa using h
    rw[this,Y0];omega
  .refine wp_seq (no (by omega) (wp_seq (no (by omega) (wp_seq (no (by omega) (wp_seq (yes (by omega) (wp_seq (Ow rfl (vc (Ya (d:=la (T++[T.map λ_=>0])) ?_ rfl)))))))))));have e2:Xa [cb 7 (Db (aa 1)) xb (eC (.int 0))] [.sh (ma ns),.sh (la T),.sh (.int w),.sh (.int at'),.sh (.int to),.sh (.int far),.sh (la T),.un,.un,.un]=some (.lst [ma (T.map λ_=>0)]):=by simp only[Xa,evs,e1]
   show ib (aa 6) _ [.sh (ma ns),.sh (la T),.sh (.int w),.sh (.int at'),.sh (.int to),.sh (.int far),.sh (la T),.un,.un,.un]=_;simp only[ib,De,e2,show aa 6 [Sl.sh (ma ns),.sh (la T),.sh (.int w),.sh (.int at'),.sh (.int to),.sh (.int far),.sh (la T),.un,.un,.un]=some (.lst (T.map ma))from rfl,jn];rw[Q1 (by rw[Y0,yc];simp;omega)];simp[la]
 by_cases w4:w=4
 .obtain⟨v,hv,ev'⟩:∃v:Int,¬El n v/\Ka (Xa [ib (za Ta (aa 1)) (aa 5),Ma Lg (eC (.int (-1))) (aa 5)]) (Ma Gb (Fa qe [aa 0,eC (.int 6)]) (eC (.int 2))) [.sh (ma ns),.sh (la T),.sh (.int w),.sh (.int at'),.sh (.int to),.sh (.int far),.tab (yd T),.un,.un,.un]=some (.int v):=by
   have e1:Xa [ib (za Ta (aa 1)) (aa 5),Ma Lg (eC (.int (-1))) (aa 5)] [.sh (ma ns),.sh (la T),.sh (.int w),.sh (.int at'),.sh (.int to),.sh (.int far),.tab (yd T),.un,.un,.un]=some (ma [(n:Int)+far,-1-far]):=
    IW (Dy (cm (Ha (Ad hT rfl) (Ha rfl (zy (Ha rfl (Ha rfl rfl)))))))
   have e2:Ma Gb (Fa qe [aa 0,eC (.int 6)]) (eC (.int 2)) [.sh (ma ns),.sh (la T),.sh (.int w),.sh (.int at'),.sh (.int to),.sh (.int far),.tab (yd T),.un,.un,.un]=some (.int q):=
    (pf (P:=(·=(q:Int))) (Ha ((uc rfl rfl).trans (Fg ns 6)) (Ha rfl ⟨by decide,eq⟩))).eq
   refine⟨[(n:Int)+far,-1-far].getD q 0,?_,(Bn (P:=(·=[(n:Int)+far,-1-far].getD q 0)) (Xc e1 (Ha e2 ⟨⟨by omega,by simp;omega⟩,by rw[W3]⟩))).eq⟩
   match q,hq with
   |0,_=>intro h;have:=h.2;simp at this;omega
   |1,_=>intro h;have:=h.1;simp at this;omega
   |n+2,h=>exact absurd h (by omega)
  refine pre (B:=T.set at' ((T.getD at' []).set to v)) (lB hT ni (by rw[P2];omega) ?_) ?_
  .rw[v8];intro h;unfold oj at h;simp only[Z2,N2,G3]at h;have h2:=h.2 v (List.mem_set (by omega) v);rw[P2,hlen]at h2;exact hv h2
  refine wp_seq (no (by omega) (wp_seq (no (by omega) (wp_seq (no (by omega) (wp_seq (no (by omega) (wp_seq (yes (by omega) (LW rfl ev' rfl rfl (by omega) (by omega) ?_))))))))));refine wp_seq (no (by omega) ?_);exact wp_seq (Ow rfl (vc (Ya rfl rfl)))
 .have e1:∀f,cb 9 (vb (eC (.int 13))) xb (cb 8 (vb (eC (.int 13))) xb (Ma Gb (ib (aa 9) (aa 8)) (eC (.int 13)))) [.sh (ma ns),.sh (la T),.sh (.int w),.sh (.int at'),.sh (.int to),.sh (.int far),f,.un,.un,.un]=some (la ((upto 13).map λa=>(upto 13).map λb=>(a+b)%13)):=λf=>by
   unfold la;rw[i4];refine Jm (upto 13) D.int _ (Wh rfl (by decide)) (by rw[Fd,yc];omega) λa _=>?_;show _=some (ma _);unfold ma;rw[i4];refine Jm (upto 13) D.int _ (Wh rfl (by decide)) (by rw[Fd,yc];omega) λb _=>?_;exact(pf (P:=(·=(a+b)%13)) (cm (Ha rfl (Ha rfl (Ha rfl ⟨by decide,rfl⟩))))).eq
  refine pre (B:=(upto 13).map λa=>(upto 13).map λb=>(a+b)%13) ⟨λr hr=>?_,by rw[Y0,Fd];omega,.inr (.inl (by rw[Y0,Fd];omega))⟩ ?_
  .obtain⟨a,_,rfl⟩:=U1.mp hr;rw[Y0,Fd];omega
  .exact wp_seq (no (by omega) (wp_seq (no (by omega) (wp_seq (no (by omega) (wp_seq (no (by omega) (wp_seq (no (by omega) (wp_seq (yes (by omega) (vc (Ya (e1 _) rfl)))))))))))))
theorem QW{a:Ex}{env:Env}{x:Int}{r:K0}(h:a env=some (ma (x::r))):Xf a (Wf (eC (.int 1))) vg env=some (ma r):=by simp only[Xf,h,Wf,eC,vg,ma,Wo,cutD,Fb];simp;exact O7 (by simp)
theorem BI{a:Ex}{env:Env}{r:K0}(h:a env=some (ma r))(k:Nat):Xf a vg (Wf (eC (.int k))) env=some (ma (r.take k)):=by
 simp only[Xf,h,Wf,eC,vg,ma,Wo,cutD,Fb];have h0:¬((k:Int)<0):=by omega
 simp only[h0,r6,W3,Y0,V8,E9,N6];congr 2;rw[U7];simp
theorem RW{a:Ex}{env:Env}{r:K0}(h:a env=some (ma r))(h0:0<r.length):∃z∈r,Ka a (eC (.int (-1))) env=some (.int z):=by
 refine⟨r[r.length-1],N3 _,?_⟩;simp only[Ka,De,h,eC,ma,Vo,Fk,we,Y0];rw[B2 (by omega),Q1 (by omega)];have:((-1:Int)+(r.length:Int)).toNat=r.length-1:=by omega
 simp[this,h0]
theorem CI{r:K0}{z:Int}(h:(r++[z]).Pairwise (·<·)):∀x∈r,x<z:=λx hx=>(W5.mp h).2.2 x hx z (by simp)
theorem SW(ns:K0){T:J0}{n s:Nat}(G:Pa T n s){r:K0}(hS:Sg T n s r){w:Nat}(hw:w<7):∃q,yA [ma ns,la T,ma r,.int w]=some (ma q)/\q.length<=100/\¬Sg T n s q:=by
 have hT:=G.tab;have hlen:=hT.len;have fu:=hT.pos;have EJ:=hT.top;have Jx:=hS.rs.len;have qZ:0<r.length:=j5 hS.rest;obtain⟨far,Lm⟩:∃far:Int,far=ce ns 6%100000000000000000000000000000000000000:=⟨_,rfl⟩
 have AI:0<=far:=by rw[Lm];omega
 obtain⟨os,fk⟩:∃os:K0,os=(upto n).filter λx=>decide (x≠(s:Int)):=⟨_,rfl⟩
 have osl:os.length<=n:=by rw[fk];exact E3 (V4 _ _) (by rw[Fd];omega)
 have DI:∀x∈os,El n x/\x≠s:=λx hx=>by rw[fk,E2]at hx;exact⟨Ud.mp hx.1,by simpa using hx.2⟩
 have EI:os.Nodup:=by rw[fk];exact(Qu n).filter _
 let Q:Out->Env->Prop:=λo _=>∃q,o=.rt (ma q)/\q.length<=100/\¬Sg T n s q;suffices key:wp MG (enter 9 [ma ns,la T,ma r,.int w]) Q by obtain⟨o,e,h1,q,rfl,h2,h3⟩:=key;exact⟨q,Zd rfl h1,h2,h3⟩
 refine wp_seq (Bc (zb.ev (pf (Ha ((uc rfl rfl).trans (Fg ns 6)) (Ay (Ha rfl (Ha rfl ⟨by decide,⟨by decide,?_⟩⟩)))))));rw[show ce ns 6%(10:Int)^(38:Int).toNat=far by rw[Lm];rfl];refine wp_seq (Bc (Ya ((Nd rfl).trans (uH G)) ?_));refine wp_seq (Bc (Vb.ev (En (r:=upto n) (λx=>decide (x≠(s:Int))) (λx=>x) (Wh (Ad hT rfl) (by omega)) (by rw[Fd,yc];omega) (λx _=>xp (Ha rfl (Ha rfl rfl))) (λx _ _=>Ha rfl rfl) ?_)));rw[X4,<-fk];let E:Sl->Sl->Env:=λz7 z8=>[.sh (ma ns),.sh (la T),.sh (ma r),.sh (.int w),.sh (.int far),.sh (.int s),.sh (ma os),z7,z8]
 have no:∀{j:Int} {a:St} {z7 z8:Sl} {Q:Out->Env->Prop},(w:Int)≠j->Q .nx (E z7 z8)->wp (Za (Ra (aa 3) (eC (.int j))) a Qa) (E z7 z8) Q:=λ{j a z7 z8 Q} hj h=>
  Gj (Bf (Ha rfl (Ha rfl (O2 hj)))) h
 have yes:∀{j:Int} {a:St} {z7 z8:Sl} {Q:Out->Env->Prop},(w:Int)=j->wp a (E z7 z8) Q->wp (Za (Ra (aa 3) (eC (.int j))) a Qa) (E z7 z8) Q:=λ{j a z7 z8 Q} hj h=>
  bg (Bf (Ha rfl (Ha rfl ⟨λ_=>h,λe=>absurd hj (Q3 e)⟩)))
 have Bk:∀{j:Int} {t:Tx} {a:St} {z7 z8:Sl} {Q:Out->Env->Prop},(w:Int)≠j->Q .nx (E z7 z8)->wp (Za (Kc (Ra (aa 3) (eC (.int j))) t) a Qa) (E z7 z8) Q:=λ{j t a z7 z8 Q} hj h=>
  Gj (Gy (Bf (Ha rfl (Ha rfl ⟨λe=>absurd (X2 e) hj,λ_=>rfl⟩)))) h
 have FI:∀{j:Int} {t:Tx} {a:St} {z7 z8:Sl} {Q:Out->Env->Prop},(w:Int)=j->tv t (E z7 z8) (λk=>(k=true->wp a (E z7 z8) Q)/\(k=false->Q .nx (E z7 z8)))->wp (Za (Kc (Ra (aa 3) (eC (.int j))) t) a Qa) (E z7 z8) Q:=λ{j t a z7 z8 Q} hj h=>by refine bg (Gy (Bf (Ha rfl (Ha rfl ⟨λ_=>tv.mono h λd hd=>⟨hd.1,λe=>Qf (hd.2 e)⟩,λe=>absurd hj (Q3 e)⟩))))
 have last:∀z7 z8,wp (Na (cb 7 (Db (aa 2)) (Cd (aa 7) (aa 5)) (aa 7))) (E z7 z8) Q:=λz7 z8=>by refine vc (Vb.ev (En (r:=r) (λx=>decide (x≠(s:Int))) (λx=>x) (xg rfl) (by rw[yc];omega) (λx _=>xp (Ha rfl (Ha rfl rfl))) (λx _ _=>Ha rfl rfl) ?_));rw[X4];refine⟨_,rfl,E3 (V4 _ _) (by omega),λh=>?_⟩;have:=h.rest;rw[E2]at this;simp at this
 show wp _ (E .un .un) Q;by_cases w0:w=0
 .refine wp_seq (yes (by omega) (vc (Ya (d:=ma []) rfl ⟨[],rfl,by simp,λh=>?_⟩)));have:=h.rest;simp at this
 refine wp_seq (no (by omega) ?_);by_cases w1:w=1
 .obtain⟨z,hz,ez⟩:=RW (a:=aa 2) (env:=E .un .un) (r:=r) rfl qZ;refine wp_seq (yes (by omega) (vc (Vb.ev (Kk (Xc (d:=r) rfl (im (Ha ez ⟨by simp;omega,r++[z],rfl,by simp;omega,λh=>?_⟩)))))));have:=CI h.rs.up z hz;omega
 refine wp_seq (no (by omega) ?_);by_cases w2:w=2
 .refine wp_seq (yes (by omega) (vc (Vb.ev (Kk (Xc (d:=r) rfl (im (cm (Ha (Ad hT rfl) (Ha rfl ⟨by simp;omega,_,rfl,by simp;omega,λh=>?_⟩)))))))));have:=(h.rs.el ((n:Int)+far) (by simp)).2;omega
 refine wp_seq (no (by omega) ?_);by_cases w3:w=3
 .refine wp_seq (yes (by omega) (vc (Vb.ev (Kk (im (zy (Ha rfl (Ha rfl (Xc (d:=r) rfl ⟨by simp;omega,_,rfl,by simp;omega,λh=>?_⟩)))))))));have:=(h.rs.el (-1-far) (by simp)).1;omega
 refine wp_seq (no (by omega) ?_);by_cases w4:w=4
 .refine wp_seq (FI (by omega) (vp (gm (Xc (d:=r) rfl (Ha rfl ⟨λh1=>?_,λh1=>?_⟩)))))
  .have h1:=X2 h1;obtain⟨a,b,t,rfl⟩:∃a b t,r=a::b::t:=by
    match r,h1 with
    |a::b::t,_=>exact⟨a,b,t,rfl⟩
    |[a],h=>exact absurd h (by simp)
    |[],h=>exact absurd h (by simp)
   refine vc (Vb.ev (Kk (Xc (QW (r:=b::t) rfl) (Xc (BI (r:=a::b::t) rfl 1) ⟨by simp at Jx |-;omega,_,rfl,by simp at Jx |-;omega,λh=>?_⟩))));have h2:=CI (r:=b::t) (z:=a) h.rs.up b (by simp);have h3:=(Z3.mp hS.rs.up).1 b (by simp);omega
  .exact wp_seq (no (by omega) (wp_seq (Bk (by omega) (last _ _))))
 refine wp_seq (Bk (by omega) ?_);by_cases w5:w=5
 .refine wp_seq (yes (by omega) (zp (n:=n) (λk e=>(∀j:Nat,j<k->tg T ((far+j)%n) ((far+j)%n)=s\/tg T ((far+j)%n) ((far+j)%n)=(far+j)%n)/\∃z7 z8,e=E z7 z8) (Pg (Ad hT rfl) (by omega)) ⟨λj hj=>absurd hj (by omega),_,_,rfl⟩ (λk e hk he=>?_) λe he=>?_))
  .obtain⟨hp,z7,z8,rfl⟩:=he;obtain⟨m,hm,em⟩:=Ii (far+k) (show 0<n by omega);refine wp_seq (Bc (zb.ev (pf (cm (Ha rfl (Ha rfl (Ha (Ad hT rfl) ⟨by omega,?_⟩)))))));rw[show(far+(k:Int))%(n:Int)=(m:Int)from em];refine bg (jD (Vh hT rfl (Ha rfl (Ha rfl ⟨⟨by omega,by omega⟩,⟨by omega,by omega⟩,Dy (Ha rfl (Ha rfl ⟨λh=>?_,λh=>Qf ?_⟩))⟩))))
   .have h:=X2 h;refine vc (Vb.ev (Cr (Dy (Ha rfl (Ha rfl ⟨by simp,_,rfl,?_,λhs=>?_⟩)))))
    .rw[(Af _).length_eq];simp
    .have:=hs.cls m (Hm.mpr (by simp)) m (Hm.mpr (by simp));exact h (Hm.mp this)
   .have h:=Q3 h;refine⟨λj hj=>?_,_,_,rfl⟩;by_cases rZ:j=k
    .subst rZ;rw[em];have:tg T m m∈[(s:Int),(m:Int)]:=D5 λhn=>h hn;simpa using this
    .exact hp j (by omega)
  .obtain⟨hp,z7,z8,rfl⟩:=he;have all:∀x,El n x->tg T x x=s\/tg T x x=x:=λx hx=>by
    obtain⟨j,hj,ej⟩:=Ii (x-far) (show 0<n by omega);have e:(far+(j:Int))%(n:Int)=x:=by rw[<-ej,show(far+(x-far)%(n:Int))%(n:Int)=(far+(x-far))%(n:Int) by simp[Int.add_emod]];rw[show far+(x-far)=x by omega];exact Int.emod_eq_of_lt hx.1 hx.2
    have:=hp j hj;rw[e]at this;exact this
   have sq:∀x,El n x->tg T x x=s:=λx hx=>by
    rcases all x hx with h|h
    .exact h
    .have e:x=s:=G.cl hx hx G.s (h.trans (G.r hx).symm);rw[e,G.l G.s]
   refine wp_seq (FI (by omega) (vp (gm (Xc (d:=os) rfl (Ha rfl ⟨λh1=>?_,λ_=>last _ _⟩)))));have h1:=X2 h1;obtain⟨a,b,t,Ph⟩:∃a b t,os=a::b::t:=by
    match os,h1 with
    |a::b::t,_=>exact⟨a,b,t,rfl⟩
    |[a],h=>exact absurd h (by simp)
    |[],h=>exact absurd h (by simp)
   have ha:=DI a (by rw[Ph];simp);have hb:=DI b (by rw[Ph];simp);have ic:a≠b:=by rw[Ph]at EI;intro e;subst e;simp at EI
   refine vc (Vb.ev (Cr (Kk (im (Ha rfl (Xc (BI (r:=os) rfl 2) ⟨by simp;omega,by simp;omega,_,rfl,?_,λhs=>?_⟩))))))
   .rw[(Af _).length_eq];simp;omega
   .rw[Ph]at hs;have:=Hm.mp (hs.cls a (Hm.mpr (by simp)) b (Hm.mpr (by simp)));simp at this;rcases this with h|h|h
    .exact ic (G.cl ha.1 ha.1 hb.1 ((sq a ha.1).trans h.symm))
    .exact hb.2 (G.cl ha.1 hb.1 G.s (h.trans (G.r ha.1).symm))
    .exact ha.2 (G.cr hb.1 ha.1 G.s (h.trans (G.l hb.1).symm))
 .exact wp_seq (no (by omega) (wp_seq (Bk (by omega) (last _ _))))
theorem eq_str{a b:Ex}{env:Env}{x y:Str}(ha:a env=some (.str x))(hb:b env=some (.str y)):Ra a b env=some (decide (x=y)):=by
 simp only[Ra,ha,hb,Pb];rw[Q1 ⟨by simp[D.dep],by simp[D.dep]⟩];by_cases h:x=y
 .subst h;simp
 .rw[O2 h,g5.mpr h]
theorem ne_str{a b:Ex}{env:Env}{x y:Str}(ha:a env=some (.str x))(hb:b env=some (.str y)):Cd a b env=some (!decide (x=y)):=by have:=eq_str ha hb;simp only[Ra,ha,hb]at this;simp only[Cd,ha,hb];rw[Q1 ⟨by simp[D.dep],by simp[D.dep]⟩]at this |-;injection this with this;rw[this]
theorem GI{φ:V0}{es:List Ex}{env:Env}{ds:W0}(h:evs es env=some ds):Fa φ es env=φ ds:=by unfold Fa;rw[h]
theorem Pw{a b:Tx}{env:Env}{x y:Bool}(ha:a env=some x)(hb:b env=some y):Kc a b env=some (x&&y):=by cases x<;>simp[Kc,ha,hb]
theorem TW{a b:Tx}{env:Env}{x y:Bool}(ha:a env=some x)(hb:b env=some y):Nf a b env=some (x||y):=by cases x<;>simp[Nf,ha,hb]
theorem Dq{a b:Ex}{env:Env}{x y:Int}(ha:a env=some (.int x))(hb:b env=some (.int y)):Ra a b env=some (decide (x=y)):=(Bf (P:=(·=decide (x=y))) (Ha ha (Ha hb rfl))).eq
theorem HI{a b:Ex}{env:Env}{x y:Int}(ha:a env=some (.int x))(hb:b env=some (.int y)):Ob Ld a b env=some (decide (y<x)):=(vp (P:=(·=decide (y<x))) (Ha ha (Ha hb rfl))).eq
noncomputable def Oe(k:Nat):Nat:=(if 1<k then 1 else 0)+(if 5<k then 1 else 0)+(if 9<k then 1 else 0)
noncomputable def Mm(d0 d1 d2 d3:Str)(k:Nat):Str:=if 12<k/\[d0,d1,d2,d3].getD (Oe k) ""="part" then "done" else[d0,d1,d2,d3].getD (Oe k) ""
noncomputable def UW(w:Str)(k:Nat)(t:Str):Prop:=t=w\/(w="done"/\(k=12/\t="loose"\/14<k/\t="large"))
theorem VW{d0 d1 d2 d3:Str}{a b c d e f z7 z8 z9 Mi jg:Sl}:∀k:Nat,k<17->Ti (Ka (Ed 6) (ib (ib (za ij (eB (Ob Ld (aa 10) (eC (.int 1))))) (za ij (eB (Ob Ld (aa 10) (eC (.int 5)))))) (za ij (eB (Ob Ld (aa 10) (eC (.int 9))))))) [a,b,c,d,e,f,.ow [.str d0,.str d1,.str d2,.str d3],z7,z8,z9,.sh (.int k),Mi,jg]=some (.str ([d0,d1,d2,d3].getD (Oe k) "")):=by
 intro k hk
 match k,hk with
 |0,_=>rfl
 |1,_=>rfl
 |2,_=>rfl
 |3,_=>rfl
 |4,_=>rfl
 |5,_=>rfl
 |6,_=>rfl
 |7,_=>rfl
 |8,_=>rfl
 |9,_=>rfl
 |10,_=>rfl
 |11,_=>rfl
 |12,_=>rfl
 |13,_=>rfl
 |14,_=>rfl
 |15,_=>rfl
 |16,_=>rfl
 |n+17,h=>exact absurd h (by omega)
theorem mB{ns:K0}{T:J0}{p:K0}{x:Int}{kn:D}{far:Sl}{d0 d1 d2 d3:Str}{z7 z8 z9 Zj Mi jg:Sl}(hT:T.length<=1000)(h:∀k,k<17->∃v,Km k (la T) (.int x) (ma p)=some v/\(∀c,v=.inr c->c<6)/\UW (Mm d0 d1 d2 d3 k) k (Yj v)):wp (ua (yb (gN 10) (vb (eC (.int 17))) (ua (Sa 11 (Ti (Ka (Ed 6) (ib (ib (za ij (eB (Ob Ld (aa 10) (eC (.int 1))))) (za ij (eB (Ob Ld (aa 10) (eC (.int 5)))))) (za ij (eB (Ob Ld (aa 10) (eC (.int 9))))))))) (ua (Za (Kc (Ob Ld (aa 10) (eC (.int 12))) (Ra (aa 11) (eC (.str "part")))) (Sa 11 (eC (.str "done"))) Qa) (ua (Sa 12 (Fa pq [aa 10,Fa ql [aa 1],aa 5,za Je (aa 3)])) (ua (Za (Kc (Ra (aa 11) (eC (.str "done"))) (Nf (Kc (Ra (aa 10) (eC (.int 12))) (Ra (aa 12) (eC (.str "loose")))) (Kc (Ob Ld (aa 10) (eC (.int 14))) (Ra (aa 12) (eC (.str "large")))))) (Sa 12 (eC (.str "done"))) Qa) (Za (Cd (aa 12) (aa 11)) (Na (eC (.bl false))) Qa)))))) (Na (eC (.bl true)))) [.sh (ma ns),.sh (la T),.sh kn,.sh (ma p),far,.sh (.int x),.ow [.str d0,.str d1,.str d2,.str d3],z7,z8,z9,Zj,Mi,jg] (ends (.bl true)):=by
 refine wp_seq (zp (n:=17) (λk e=>∃Zj Mi jg,e=[.sh (ma ns),.sh (la T),.sh kn,.sh (ma p),far,.sh (.int x),.ow [.str d0,.str d1,.str d2,.str d3],z7,z8,z9,Zj,Mi,jg]) (Pg rfl (by decide)) ⟨_,_,_,rfl⟩ (λk e hk he=>?_) λe he=>?_)
 .obtain⟨Zj,Mi,jg,rfl⟩:=he;obtain⟨v,hv,hc,hf⟩:=h k hk;refine wp_seq (Bc (Ya (VW k hk) ?_));obtain⟨w1,FJ⟩:∃w1,w1=[d0,d1,d2,d3].getD (Oe k) "":=⟨_,rfl⟩
  obtain⟨w2,GJ⟩:∃w2,w2=Mm d0 d1 d2 d3 k:=⟨_,rfl⟩
  rw[<-GJ]at hf;have hw:w2=if 12<k/\w1="part" then("done":Str)else w1:=by rw[GJ,FJ];rfl
  rw[<-FJ];have rest:wp (ua (Sa 12 (Fa pq [aa 10,Fa ql [aa 1],aa 5,za Je (aa 3)])) (ua (Za (Kc (Ra (aa 11) (eC (.str "done"))) (Nf (Kc (Ra (aa 10) (eC (.int 12))) (Ra (aa 12) (eC (.str "loose")))) (Kc (Ob Ld (aa 10) (eC (.int 14))) (Ra (aa 12) (eC (.str "large")))))) (Sa 12 (eC (.str "done"))) Qa) (Za (Cd (aa 12) (aa 11)) (Na (eC (.bl false))) Qa)))
    [.sh (ma ns),.sh (la T),.sh kn,.sh (ma p),far,.sh (.int x),.ow [.str d0,.str d1,.str d2,.str d3],z7,z8,z9,.sh (.int k),.sh (.str w2),jg] (lps (λe=>∃Zj Mi jg,e=[.sh (ma ns),.sh (la T),.sh kn,.sh (ma p),far,.sh (.int x),.ow [.str d0,.str d1,.str d2,.str d3],z7,z8,z9,Zj,Mi,jg]) (Ua (Na (eC (.bl true))) (ends (.bl true)))):=by
   have et:Fa pq [aa 10,Fa ql [aa 1],aa 5,za Je (aa 3)] [.sh (ma ns),.sh (la T),.sh kn,.sh (ma p),far,.sh (.int x),.ow [.str d0,.str d1,.str d2,.str d3],z7,z8,z9,.sh (.int k),.sh (.str w2),jg]=some (.str (Yj v)):=by
    have e1:Fa ql [aa 1] [.sh (ma ns),.sh (la T),.sh kn,.sh (ma p),far,.sh (.int x),.ow [.str d0,.str d1,.str d2,.str d3],z7,z8,z9,.sh (.int k),.sh (.str w2),jg]=some (la T):=(Nd rfl).trans (WG hT);have e2:evs [aa 10,Fa ql [aa 1],aa 5,za Je (aa 3)] [.sh (ma ns),.sh (la T),.sh kn,.sh (ma p),far,.sh (.int x),.ow [.str d0,.str d1,.str d2,.str d3],z7,z8,z9,.sh (.int k),.sh (.str w2),jg]=some [.int k,la T,.int x,ma p]:=by simp only[evs,e1];rfl
    exact(GI e2).trans (EW hk hv hc)
   refine wp_seq (Bc (Ya et ?_));have fin:∀t2:Str,t2=w2->wp (Za (Cd (aa 12) (aa 11)) (Na (eC (.bl false))) Qa) [.sh (ma ns),.sh (la T),.sh kn,.sh (ma p),far,.sh (.int x),.ow [.str d0,.str d1,.str d2,.str d3],z7,z8,z9,.sh (.int k),.sh (.str w2),.sh (.str t2)] (lps (λe=>∃Zj Mi jg,e=[.sh (ma ns),.sh (la T),.sh kn,.sh (ma p),far,.sh (.int x),.ow [.str d0,.str d1,.str d2,.str d3],z7,z8,z9,Zj,Mi,jg]) (Ua (Na (eC (.bl true))) (ends (.bl true)))):=λt2 ht=>by refine Gj (Ik (ne_str (x:=t2) (y:=w2) rfl rfl) (by rw[K2 ht];rfl)) ⟨_,_,_,rfl⟩
   have hC:Kc (Ra (aa 11) (eC (.str "done"))) (Nf (Kc (Ra (aa 10) (eC (.int 12))) (Ra (aa 12) (eC (.str "loose")))) (Kc (Ob Ld (aa 10) (eC (.int 14))) (Ra (aa 12) (eC (.str "large"))))) [.sh (ma ns),.sh (la T),.sh kn,.sh (ma p),far,.sh (.int x),.ow [.str d0,.str d1,.str d2,.str d3],z7,z8,z9,.sh (.int k),.sh (.str w2),.sh (.str (Yj v))]=some (decide (w2="done")&&(decide ((k:Int)=12)&&decide (Yj v="loose")||decide ((14:Int)<k)&&decide (Yj v="large"))):=
    Pw (eq_str (x:=w2) rfl rfl) (TW (Pw (Dq (x:=k) rfl rfl) (eq_str (x:=Yj v) rfl rfl)) (Pw (HI (x:=k) rfl rfl) (eq_str (x:=Yj v) rfl rfl)))
   refine wp_seq (bg (Ik hC ⟨λhb=>Bc (Ya rfl (fin "done" ?_)),λhb=>Qf (fin _ ?_)⟩))
   .simp only[Z2,N2]at hb;exact hb.1.symm
   .rcases hf with e|⟨e1,⟨e2,e3⟩|⟨e2,e3⟩⟩
    .exact e
    .rw[K2 e1,K2 e3,K2 (show(k:Int)=12 by omega)]at hb;cases hb
    .rw[K2 e1,K2 e3,K2 (show(14:Int)<k by omega)]at hb;simp at hb
  have hD:Kc (Ob Ld (aa 10) (eC (.int 12))) (Ra (aa 11) (eC (.str "part"))) [.sh (ma ns),.sh (la T),.sh kn,.sh (ma p),far,.sh (.int x),.ow [.str d0,.str d1,.str d2,.str d3],z7,z8,z9,.sh (.int k),.sh (.str w1),jg]=some (decide ((12:Int)<k)&&decide (w1="part")):=
   Pw (HI (x:=k) rfl rfl) (eq_str (x:=w1) rfl rfl)
  refine wp_seq (bg (Ik hD ⟨λhb=>Bc (Ya rfl ?_),λhb=>Qf ?_⟩))
  .simp only[Z2,N2]at hb;rw[Q1 ⟨by omega,hb.2⟩]at hw;rw[hw]at rest;exact rest
  .rw[B2]at hw
   .rw[hw]at rest;exact rest
   .rintro⟨e1,e2⟩;rw[K2 e2,K2 (show(12:Int)<k by omega)]at hb;cases hb
 .obtain⟨_,_,_,rfl⟩:=he;exact vc (Ya rfl rfl)
noncomputable def MT(m:Nat):J0:=(upto m).map λa=>(upto m).map λb=>if b>a then b else a
theorem WW{m:Nat}(h0:1<=m)(h1:m<=12):Tab (MT m) m:=by
 refine⟨by rw[MT,Y0,Fd],λr hr=>?_,λr hr x hx=>?_,h0,h1⟩
 .obtain⟨a,_,rfl⟩:=U1.mp hr;rw[Y0,Fd]
 .obtain⟨a,ha,rfl⟩:=U1.mp hr;obtain⟨b,hb,rfl⟩:=U1.mp hx;have ha:=Ud.mp ha;have hb:=Ud.mp hb;split<;>omega
theorem XW:∀m:Nat,m<13->2<=m->(Yg (MT m) m).Ul=false:=by decide +kernel
theorem II(a b:Nat):(upto a).take b=upto (min b a):=by unfold upto;rw[<-N6,List.take_range]
theorem YW{a b:Ex}{env:Env}{r:K0}(h:a env=some (ma r)){k:Nat}(hb:b env=some (.int k)):Xf a vg (Wf b) env=some (ma (r.take k)):=by
 simp only[Xf,h,Wf,hb,vg,ma,Wo,cutD,Fb];have h0:¬((k:Int)<0):=by omega
 simp only[h0,r6,W3,Y0,V8,E9,N6];congr 2;rw[U7];simp
theorem ZW{a b:Ex}{env:Env}{T:J0}(h:a env=some (la T)){k:Nat}(hb:b env=some (.int k)):Xf a vg (Wf b) env=some (la (T.take k)):=by
 simp only[Xf,h,Wf,hb,vg,la,Wo,cutD,Fb];have h0:¬((k:Int)<0):=by omega
 simp only[h0,r6,W3,Y0,V8,E9,N6];congr 2;rw[U7];simp
theorem nB{env:Env}{i j:Nat}{v:Sl}(h:i≠j):aa j (env.set i v)=aa j env:=by unfold aa;rw[Q2 h]
theorem oB{env:Env}{i:Nat}{d:D}(h:i<env.length):aa i (env.set i (.sh d))=some d:=by unfold aa;rw[W2 h];rfl
theorem aX{env:Env}{T:J0}{n:Nat}(hT:Tab T n)(h1:aa 1 env=some (la T))(hl:9<env.length):Xf (cb 8 (vb (ib (za Ta (aa 1)) (eC (.int 1)))) xb (cb 7 (vb (ib (za Ta (aa 1)) (eC (.int 1)))) xb (Ma br (aa 8) (aa 7)))) vg (Wf (eC (.int 12))) env=some (la ((upto (min 12 (n+1))).map λa=>(upto (n+1)).map λb=>if b>a then b else a)):=by
 have ht:=hT.top;have en:∀env:Env,aa 1 env=some (la T)->ib (za Ta (aa 1)) (eC (.int 1)) env=some (.int ((n+1:Nat):Int)):=λenv h=>by refine(cm (P:=(·=((n+1:Nat):Int))) (Ha (Ad hT h) (Ha rfl ?_))).eq;omega
 have e1:cb 8 (vb (ib (za Ta (aa 1)) (eC (.int 1)))) xb (cb 7 (vb (ib (za Ta (aa 1)) (eC (.int 1)))) xb (Ma br (aa 8) (aa 7))) env=some (la ((upto (n+1)).map λa=>(upto (n+1)).map λb=>if b>a then b else a)):=by unfold la;rw[i4];refine Jm (upto (n+1)) D.int _ (Wh (en env h1) (by omega)) (by rw[Fd,yc];omega) λa _=>?_;show _=some (ma _);unfold ma;rw[i4];have g1:aa 1 (env.set 8 (.sh (.int a)))=some (la T):=(nB (by decide)).trans h1;refine Jm (upto (n+1)) D.int _ (Wh (en _ g1) (by omega)) (by rw[Fd,yc];omega) λb _=>?_;have g8:aa 8 ((env.set 8 (.sh (.int a))).set 7 (.sh (.int b)))=some (.int a):=(nB (by decide)).trans (oB (by omega));have g7:aa 7 ((env.set 8 (.sh (.int a))).set 7 (.sh (.int b)))=some (.int b):=oB (by rw[P2];omega);simp only[Ma,g8,g7,br,Function.comp]
 rw[ZW e1 (b:=eC (.int 12)) (k:=12) rfl,<-N6,II]
theorem bX{env:Env}{m n:Nat}(h0:m<=n)(hm:m<=1000)(h1:aa 1 env=some (la ((upto m).map λa=>(upto n).map λb=>if b>a then b else a)))(hl:9<env.length):cb 9 (Db (aa 1)) xb (Xf (aa 9) vg (Wf (za Ta (aa 1)))) env=some (la (MT m)):=by
 have e0:la (MT m)=.lst ((upto m).map λa=>ma ((upto m).map λb=>if b>a then b else a)):=by unfold la MT;rw[i4];rfl
 rw[e0];refine Jm (upto m) (λa=>ma ((upto n).map λb=>if b>a then b else a)) _ ?_ (by rw[Fd,yc];omega) λa _=>?_
 .rw[Hj h1,i4];rfl
 .have g1:aa 1 (env.set 9 (.sh (ma ((upto n).map λb=>if b>a then b else a))))=some (la ((upto m).map λa=>(upto n).map λb=>if b>a then b else a)):=(nB (by decide)).trans h1;have g9:aa 9 (env.set 9 (.sh (ma ((upto n).map λb=>if b>a then b else a))))=some (ma ((upto n).map λb=>if b>a then b else a)):=oB (by omega);have gl:za Ta (aa 1) (env.set 9 (.sh (ma ((upto n).map λb=>if b>a then b else a))))=some (.int m):=by
   rw[Yl g1,jp,Y0,Fd]
  rw[YW g9 gl,<-N6,II,show min m n=m by omega]
theorem Nm{e:Ex}{es:List Ex}{env:Env}{d:D}{ds:W0}(h:e env=some d)(h2:evs es env=some ds):evs (e::es) env=some (d::ds):=by simp[evs,h,h2]
theorem cX{es:List Ex}{env:Env}{ds:W0}(h:evs es env=some ds):Xa es env=some (.lst ds):=by simp[Xa,h]
theorem dX{k:Nat}(h:k<2):Oe k=0:=by unfold Oe;split<;>split<;>split<;>omega
theorem eX{k:Nat}(h:2<=k)(h':k<6):Oe k=1:=by unfold Oe;split<;>split<;>split<;>omega
theorem JI{k:Nat}(h:6<=k)(h':k<10):Oe k=2:=by unfold Oe;split<;>split<;>split<;>omega
theorem Qw{k:Nat}(h:10<=k):Oe k=3:=by unfold Oe;split<;>split<;>split<;>omega
theorem KI{i k:Nat}{e:Ex}{env:Env}{Q:Out->Env->Prop}{ds:W0}{d:D}(hi:env[i]?=some (.ow ds))(he:e env=some d)(hk:k<ds.length)(h:Q .nx (env.set i (.ow (ds.set k d)))):wp (Zo i (eC (.int k)) e) env Q:=by refine⟨_,_,?_,h⟩;simp only[Zo,hi,he,eC,Pt hk]
theorem fX(ns:K0):wt [ma ns]=some (.bl true):=by
 obtain⟨n,s,T,eT,G,few⟩:=YU ns 0;obtain⟨P,eP,_,hP,_⟩:=vV G few;have hT:=G.tab;have fu:=hT.pos;have EJ:=hT.top;have hlen:=hT.len;have gX:0<P.length:=by obtain⟨q,_,Lq⟩:=Fm G (S:=[]) (by simp) (by simp);exact j5 ((hP q).mpr Lq.sg)
 obtain⟨q2,Do,e2⟩:=Ii (ce ns 2) gX;obtain⟨x0,G0,e3⟩:=Ii (ce ns 3) (show 0<n by omega);obtain⟨far,Lm⟩:∃far:Int,far=ce ns 6%100000000000000000000000000000000000000:=⟨_,rfl⟩
 have AI:0<=far:=by rw[Lm];omega
 refine Pd rfl (wp_seq (Bc (Ya ((uc rfl rfl).trans eT) ?_)));refine wp_seq (Bc (Ya ((Nd rfl).trans eP) ?_));obtain⟨r,hr⟩:∃r,r=P.getD q2 []:=⟨_,rfl⟩
 have sZ:r∈P:=by rw[hr,K1,E1 Do];exact N3 _
 have hS:=(hP r).mp sZ;have Jx:=hS.rs.len;have iX:∀env:Env,aa 2 env=some (la P)->za Ta (aa 2) env=some (.int P.length):=λenv h=>by rw[Yl h,jp]
 refine wp_seq (Bc (Vb.ev (cD (am (d:=P) rfl (pf (Ha ((uc rfl rfl).trans (Fg ns 2)) (Ha (iX _ rfl) ⟨by omega,?_⟩)))))));rw[show ce ns 2%(P.length:Int)=(q2:Int)from e2];refine⟨⟨by omega,by omega⟩,?_⟩;rw[W3,<-hr];refine wp_seq (Bc (zb.ev (pf (Ha ((uc rfl rfl).trans (Fg ns 6)) (Ay (Ha rfl (Ha rfl ⟨by decide,⟨by decide,?_⟩⟩)))))));rw[show ce ns 6%(10:Int)^(38:Int).toNat=far by rw[Lm];rfl];refine wp_seq (Bc (zb.ev (pf (Ha ((uc rfl rfl).trans (Fg ns 3)) (Ha (Ad hT rfl) ⟨by omega,?_⟩)))));rw[show ce ns 3%(n:Int)=(x0:Int)from e3];refine wp_seq (sr (Ya rfl ⟨_,rfl,?_⟩));refine wp_seq (wp.mono (Q:=λo e=>o=.nx/\∃(x:Int) (d2:Str),((d2="done"/\El n x)\/(d2="element"/\¬El n x))/\e=[.sh (ma ns),.sh (la T),.sh (la P),.sh (ma r),.sh (.int far),.sh (.int x),.ow [.str "done",.str "done",.str d2,.str "done"],.un,.un,.un,.un,.un,.un]) ?_ λo e h=>?_)
 .refine bg (Bf (pf (Ha ((uc rfl rfl).trans (Fg ns 7)) (Ha rfl ⟨by decide,Ha rfl ⟨λ_=>?_,λ_=>Qf ⟨rfl,x0,"done",.inl ⟨rfl,by omega,by omega⟩,rfl⟩⟩⟩))));obtain⟨q,hq,eq⟩:=Ii (ce ns 7/3) (show 0<4 by decide);have e1:Xa [eC (.int (-1)),za Ta (aa 1),Ma Lg (eC (.int (-1))) (aa 4),ib (za Ta (aa 1)) (aa 4)] [.sh (ma ns),.sh (la T),.sh (la P),.sh (ma r),.sh (.int far),.sh (.int x0),.ow [.str "done",.str "done",.str "done",.str "done"],.un,.un,.un,.un,.un,.un]=some (ma [-1,(n:Int),-1-far,(n:Int)+far]):=by
   have a1:za Ta (aa 1) [.sh (ma ns),.sh (la T),.sh (la P),.sh (ma r),.sh (.int far),.sh (.int x0),.ow [.str "done",.str "done",.str "done",.str "done"],.un,.un,.un,.un,.un,.un]=some (.int n):=Ad hT rfl;have a2:Ma Lg (eC (.int (-1))) (aa 4) [.sh (ma ns),.sh (la T),.sh (la P),.sh (ma r),.sh (.int far),.sh (.int x0),.ow [.str "done",.str "done",.str "done",.str "done"],.un,.un,.un,.un,.un,.un]=some (.int (-1-far)):=rfl;have a3:ib (za Ta (aa 1)) (aa 4) [.sh (ma ns),.sh (la T),.sh (la P),.sh (ma r),.sh (.int far),.sh (.int x0),.ow [.str "done",.str "done",.str "done",.str "done"],.un,.un,.un,.un,.un,.un]=some (.int ((n:Int)+far)):=(cm (P:=(·=(n:Int)+far)) (Ha a1 (Ha rfl rfl))).eq;exact cX (Nm rfl (Nm a1 (Nm a2 (Nm a3 rfl))))
  have tZ:¬El n ([-1,(n:Int),-1-far,(n:Int)+far].getD q 0):=by
   match q,hq with
   |0,_=>intro h;have:=h.1;simp at this
   |1,_=>intro h;have:=h.2;simp at this
   |2,_=>intro h;have:=h.1;simp at this;omega
   |3,_=>intro h;have:=h.2;simp at this;omega
   |n+4,h=>exact absurd h (by omega)
  refine wp_seq (Bc (zb.ev (Bn (Xc e1 (pf (qr (Ha ((uc rfl rfl).trans (Fg ns 7)) (Ha rfl ⟨⟨by decide,by decide⟩,Ha rfl ⟨by decide,?_⟩⟩))))))));rw[show ce ns 7/3%4=(q:Int)from eq];refine⟨⟨by omega,by simp;omega⟩,?_⟩;rw[W3];exact KI (k:=2) (d:=.str "element") rfl rfl (by simp) ⟨rfl,_,"element",.inr ⟨rfl,tZ⟩,rfl⟩
 obtain⟨rfl,x,d2,hx,rfl⟩:=h;refine wp_seq (wp.mono (Q:=λo e=>o=.nx/\∃(p:K0) (d3:Str),p.length<=100/\((d3="done"/\Sg T n s p)\/(d3="part"/\¬Sg T n s p))/\e=[.sh (ma ns),.sh (la T),.sh (la P),.sh (ma p),.sh (.int far),.sh (.int x),.ow [.str "done",.str "done",.str d2,.str d3],.un,.un,.un,.un,.un,.un]) ?_ λo e h=>?_)
 .refine bg (Bf (pf (Ha ((uc rfl rfl).trans (Fg ns 8)) (Ha rfl ⟨by decide,Ha rfl ⟨λ_=>?_,λ_=>Qf ⟨rfl,r,"done",by omega,.inl ⟨rfl,hS⟩,rfl⟩⟩⟩))));obtain⟨q,hq,eq⟩:=Ii (ce ns 8/3) (show 0<7 by decide);obtain⟨p,ep,Xe,uZ⟩:=SW ns G hS hq;have ew:Ma Gb (Ma je (Fa qe [aa 0,eC (.int 8)]) (eC (.int 3))) (eC (.int 7)) [.sh (ma ns),.sh (la T),.sh (la P),.sh (ma r),.sh (.int far),.sh (.int x),.ow [.str "done",.str "done",.str d2,.str "done"],.un,.un,.un,.un,.un,.un]=some (.int q):=
   (pf (P:=(·=(q:Int))) (qr (Ha ((uc rfl rfl).trans (Fg ns 8)) (Ha rfl ⟨⟨by decide,by decide⟩,Ha rfl ⟨by decide,eq⟩⟩)))).eq
  have e4:evs [aa 0,aa 1,aa 3,Ma Gb (Ma je (Fa qe [aa 0,eC (.int 8)]) (eC (.int 3))) (eC (.int 7))] [.sh (ma ns),.sh (la T),.sh (la P),.sh (ma r),.sh (.int far),.sh (.int x),.ow [.str "done",.str "done",.str d2,.str "done"],.un,.un,.un,.un,.un,.un]=some [ma ns,la T,ma r,.int q]:=by exact Nm rfl (Nm rfl (Nm rfl (Nm ew rfl)))
  refine wp_seq (Bc (Ya ((GI e4).trans ep) ?_));exact KI (k:=3) (d:=.str "part") rfl rfl (by simp) ⟨rfl,p,"part",Xe,.inr ⟨rfl,uZ⟩,rfl⟩
 obtain⟨rfl,p,d3,Xe,hp,rfl⟩:=h;obtain⟨q9,MZ,e9⟩:=Ii (ce ns 9) (show 0<4 by decide);have Rt:∀env:Env,aa 0 env=some (ma ns)->Ma Gb (Fa qe [aa 0,eC (.int 9)]) (eC (.int 4)) env=some (.int q9):=λenv h=>
  (pf (P:=(·=(q9:Int))) (Ha ((uc h rfl).trans (Fg ns 9)) (Ha rfl ⟨by decide,e9⟩))).eq
 by_cases h1:q9=1
 ·-- a sH
  refine wp_seq (bg (Ik (Dq (Rt _ rfl) rfl) ⟨λ_=>?_,λe=>absurd (show(q9:Int)=1 by omega) (Q3 e)⟩));refine wp_seq (Bc (Ya (aX hT rfl (by simp)) ?_));refine wp_seq (Bc (Ya (bX (m:=min 12 (n+1)) (n:=n+1) (by omega) (by omega) rfl (by simp)) ?_));refine sr (Ya rfl ⟨_,rfl,?_⟩);refine wp_seq (Gj (Ik (Dq (Rt _ rfl) rfl) (O2 (by omega))) ?_);have hm:=WW (m:=min 12 (n+1)) (by omega) (by omega);have hf:Yg (MT (min 12 (n+1))) (min 12 (n+1))≠.non:=λe=>by have:=XW (min 12 (n+1)) (by omega) (by omega);rw[e]at this;cases this
  refine mB (by rw[hm.len];omega) λk hk=>?_;have hc:=yW hm hf (.int x) (ma p) k hk;by_cases h2:k<2
  .obtain⟨d,e⟩:=hc.1 h2;refine⟨_,e,(λc h=>by cases h),.inl ?_⟩
   match k,h2 with
   |0,_=>rfl
   |1,_=>rfl
   |n+2,h=>exact absurd h (by omega)
  .refine⟨_,hc.2 (by omega),(λc h=>by cases h;decide),.inl ?_⟩;have:[("done":Str),"folk","folk","folk"].getD (Oe k) ""="folk":=by
    have a1:1<=Oe k:=by unfold Oe;rw[Q1 (by omega)];omega
    have a2:Oe k<=3:=by unfold Oe;split<;>split<;>split<;>omega
    match Oe k,a1,a2 with
    |1,_,_=>rfl
    |2,_,_=>rfl
    |3,_,_=>rfl
   unfold Mm;rw[this,B2 (λe=>absurd e.2 (by decide))];rfl
 refine wp_seq (Gj (Ik (Dq (Rt _ rfl) rfl) (O2 (by omega))) ?_);by_cases h2:q9=2
 ·-- no table
  refine wp_seq (bg (Ik (Dq (Rt _ rfl) rfl) ⟨λ_=>?_,λe=>absurd (show(q9:Int)=2 by omega) (Q3 e)⟩));obtain⟨q,hq,eq⟩:=Ii (ce ns 9/4) (show 0<6 by decide);obtain⟨B,eB,jX,kX,hB2⟩:=MW ns hT hq;have ew:Ma Gb (Ma je (Fa qe [aa 0,eC (.int 9)]) (eC (.int 4))) (eC (.int 6)) [.sh (ma ns),.sh (la T),.sh (la P),.sh (ma p),.sh (.int far),.sh (.int x),.ow [.str "done",.str "done",.str d2,.str d3],.un,.un,.un,.un,.un,.un]=some (.int q):=
   (pf (P:=(·=(q:Int))) (qr (Ha ((uc rfl rfl).trans (Fg ns 9)) (Ha rfl ⟨⟨by decide,by decide⟩,Ha rfl ⟨by decide,eq⟩⟩)))).eq
  refine wp_seq (Bc (Ya ((Xl rfl rfl ew).trans eB) ?_));refine sr (Ya rfl ⟨_,rfl,?_⟩);have hb:=qW jX hB2;refine mB kX λk hk=>⟨_,xW hb (.int x) (ma p) k hk,(λc h=>by cases h;decide),.inl ?_⟩
  have:[("table":Str),"table","table","table"].getD (Oe k) ""="table":=by
   have a2:Oe k<=3:=by unfold Oe;split<;>split<;>split<;>omega
   match Oe k,a2 with
   |0,_=>rfl
   |1,_=>rfl
   |2,_=>rfl
   |3,_=>rfl
  unfold Mm;rw[this,B2 (λe=>absurd e.2 (by decide))];rfl
 refine wp_seq (Gj (Ik (Dq (Rt _ rfl) rfl) (O2 (by omega))) ?_);refine mB (by omega) λk hk=>?_;obtain⟨v,hv,hc⟩:=GW G few x Xe k hk;have LI:13<=k->Mm "done" "done" d2 d3 k="done":=λh=>by
  unfold Mm;rw[Qw (by omega)];rcases hp with⟨rfl,_⟩|⟨rfl,_⟩
  .rw[B2 (λe=>absurd (show("done":Str)="part" from e.2) (by decide))];rfl
  .exact Q1 ⟨by omega,rfl⟩
 have Sw:∀d:Str,k<13->[("done":Str),"done",d2,d3].getD (Oe k) ""=d->Mm "done" "done" d2 d3 k=d:=λd h e=>by unfold Mm;rw[B2 (λe=>absurd e.1 (by omega))];exact e
 rcases hc with⟨⟨d,rfl⟩,Hx,Sm⟩|⟨h3,h4,h5,rfl⟩|⟨h3,h4,h5,rfl⟩|⟨rfl,h5,rfl⟩|⟨h3,rfl⟩
 .refine⟨_,hv,(λc h=>by cases h),.inl ?_⟩;show("done":Str)=_;by_cases k13:13<=k
  .exact(LI k13).symm
  .refine(Sw "done" (by omega) ?_).symm;by_cases k2:k<2
   .rw[dX k2];rfl
   by_cases k6:k<6
   .rw[eX (by omega) k6];rfl
   by_cases k10:k<10
   .rw[JI (by omega) k10];rcases hx with⟨rfl,_⟩|⟨_,h⟩
    .rfl
    .exact absurd (Hx ⟨by omega,k10⟩) h
   .rw[Qw (by omega)];rcases hp with⟨rfl,_⟩|⟨_,h⟩
    .rfl
    .exact absurd (Sm ⟨by omega,by omega⟩) h
 .refine⟨_,hv,(λc h=>by cases h;decide),.inl ?_⟩;show("element":Str)=_;refine(Sw "element" (by omega) ?_).symm;rw[JI h3 h4];rcases hx with⟨_,h⟩|⟨rfl,_⟩
  .exact absurd h h5
  .rfl
 .refine⟨_,hv,(λc h=>by cases h;decide),.inl ?_⟩;show("part":Str)=_;refine(Sw "part" (by omega) ?_).symm;rw[Qw h3];rcases hp with⟨_,h⟩|⟨rfl,_⟩
  .exact absurd h h5
  .rfl
 .refine⟨_,hv,(λc h=>by cases h;decide),.inr ⟨Sw "done" (by omega) ?_,.inl ⟨rfl,rfl⟩⟩⟩;rw[Qw (by omega)];rcases hp with⟨rfl,_⟩|⟨_,h⟩
  .rfl
  .exact absurd h5 h
 .exact⟨_,hv,(λc h=>by cases h;decide),.inr ⟨LI (by omega),.inr ⟨by omega,rfl⟩⟩⟩
theorem Tw{a b:St}{env Oa:Env}(h:ua a b env=some (.nx,Oa)):∃e1,a env=some (.nx,e1)/\b e1=some (.nx,Oa):=by
 unfold ua at h;split at h
 .rename_i e1 h1;exact⟨e1,h1,h⟩
 .rename_i r ic;cases hr:a env with
  |none=>rw[hr]at h;cases h
  |some p=>obtain⟨o,e1⟩:=p;rw[hr]at h;cases h;exact absurd hr (ic _)
noncomputable def top(i:Nat):Stmt:=PySem.Challenge.pw_tablefolk_k15_refused.main.body.getD i (.Pass ⟨0,0,0,0⟩)
noncomputable def DL:List (Str×Nat):=("is_element",19)::("ask_table",16)::("find_three",21)::("find_rest",22)::("find_back",23)::("find_flaw",20)::("flaw",11)::("ask_folk",17)::("rest",12)::("ask_element",18)::("back",13)::("one_round",24)::("order",14)::("done",15)::("are_of_one_kind",29)::("kind_of",28)::("kinds",26)::("makes_the_same_behind",30)::("middle",27)::("least_without_name",35)::("with_all_named",37)::("with_name",36)::("find_renaming",34)::("renaming",32)::("made_by_pairs",38)::("beside",33)::("shown_row",41)::("shown",40)::("with_all_made",50)::("least_part",49)::("part_of",43)::("fewest_first",51)::("parts",44)::("ask_part",48)::("share_ahead",52)::("all_shares",54)::("shares",45)::("share_behind",53)::("same_on_both_sides",55)::("is_loose",46)::("table_of_shares",56)::("taken_out",47)::("_law_cell_at",58)::("_law_draw",59)::("_law_cycles",60)::("_law_twisted",61)::("_law_even",62)::("_law_base",63)::("_law_renamed",64)::("_law_folk_by",65)::("_law_still",66)::("_law_copy",67)::("_law_chosen",68)::("_law_shut",70)::("_law_parts",69)::("_law_word_of",71)::("_law_first",72)::("_law_second",73)::("_law_tried",74)::("_law_bad_table",75)::("_law_bad_part",76)::[]
structure Z0(P:Program)(w:World)(K:Frag)(mg:O0)(base:Heap):Prop where
 T:Bt mg
 A:∀x i,DL.lookup x=some i->FA K mg x (top i)
 v:mg "ValueError"=none
 F:ft K [0,1,2,3,4,5]
 M:∃t,mg "MOST_ROWS"=some (.int 12 t)
 C:{c:Nat}->(h:c<6:=by decide)->WF K c
section
variable{P:Program}{w:World}{K:Frag}{mg:O0}{base:Heap}
noncomputable abbrev CP(_:Z0 P w K mg base)(k:Nat)(x:Str)(φ:V0)(m:Mc:=rk K .k):=Fh P w K mg base k x m φ
noncomputable abbrev CQ(_:Z0 P w K mg base)(k:Nat)(x:Str)(φ:Fx)(m:Mc:=rk K .k):=Am P w K mg base k x m φ
noncomputable abbrev SA(i:Nat)(N:Q0)(p:Nat):=yj N (N.take p) (Ac (top i))
noncomputable abbrev EA(i:Nat)(x:Str)(A:Around)(s:Shared)(f:Addr)(c:Value):=A.deeper (envOfC x (Ac (top i)) s.heap.objs.size f c)
theorem Aa(i:Nat){X:Cx}{es:T0}{fs:List Ex}{x:Str}{pos:Pos}(h:Cg X .k es fs)(hN:X.N[i]?=some x:=by kernel_rfl)(hv:Ee X.env.scope x=true:=by kernel_rfl)(hd:(x==("__debug__":Str))=false:=by kernel_rfl)(Mb:(x==("__classdict__":Str))=false:=by kernel_rfl):Cg X .k (.Name x pos::es) (aa i::fs):=Ja (ja i hN hv hd Mb) h
theorem Ga{X:Cx}{pos:Pos}{i j}:PD X .k (.Constant (.int i) j pos) (eC (.int i)):=QM
theorem Fq{X:Cx}{pos:Pos}{i j}:PD X .k (.Constant (.bool i) j pos) (eC (.bl i)):=RM
theorem Kd{X:Cx}{pos:Pos}{i j}:PD X .k (.Constant (.str i) j pos) (eC (.str i)):=SM
theorem Gq{X:Cx}{pos:Pos}{j}:PD X .k (.Constant .none j pos) (eC .non):=Jy
noncomputable def Wb{X m1 a f pos p}:=@yN X .k m1 a f pos p
noncomputable def gd{X a b f g pos m1 m2}:=@VM X .k a b f g pos m1 m2
noncomputable def gh{X a b f g pos m1 m2}:=@UM X .k a b f g pos m1 m2
noncomputable def jh{X a b f g pos m1 m2}:=@WM X .k a b f g pos m1 m2
theorem ck{x:Str}{g:St}{m:Mc}{k p n:Nat}(i:Nat)(N:Q0)(Z:Z0 P w K mg base)(hb:∀{f:Addr} {c:Value} {A:Around} {o:List PySem.Env} {s:Shared} {H:Hp} {E:XK},Bt mg->({j:Nat}->(h:j<=k:=by decide)->rc j (EA i x A s f c))->(EA i x A s f c).units+64<cLine->N.Nodup->(∀(e:Value) (s:Shared),False->False)->Df (Kg uf P w K mg base N x (Ac (top i)) f c A o s H E).qc m (af (top i)) g)(hm:(∀BH F' H',m BH F' H' .non .non)\/∀env Oa,g env≠some (.nx,Oa):=by first|exact .inl (Xy _)|exact .inl ME)(hi:DL.lookup x=some i:=by decide +kernel)(S:SA i N p:=by exact⟨rfl,rfl,rfl,by decide +kernel,rfl,by decide +kernel,by decide +kernel⟩)(B:Bd x (top i) (N.take p):=by first|exact fA λ_ _ _ _ _ _ _=>rfl|exact lG λ_ _ _ _ _ _ _ _=>rfl|exact gA λ_ _ _ _ _ _ _ _ _=>rfl|exact gS λ_ _ _ _ _ _ _ _ _ _=>rfl|exact iS λ_ _ _ _ _ _ _ _ _ _ _=>rfl|exact bd0 λ_ _ _ _ _ _=>rfl)(hp:(N.take p).length=p:=by rfl)(hn:N.length=n:=by rfl):Fh P w K mg base (k+1) x m (run p n g):=
 jS S (Z.A _ _ hi) B hm (λ_ _ _ _ _ _ _ hr hu hn hx=>hb Z.T (λh=>hr.mono h) hu hn hx) hp hn
theorem cx{x:Str}{g:Sx}{m:Mc}{k p n:Nat}(i:Nat)(N:Q0)(Z:Z0 P w K mg base)(hb:∀{f:Addr} {c:Value} {A:Around} {o:List PySem.Env} {s:Shared} {H:Hp} {E:XK},Bt mg->({j:Nat}->(h:j<=k:=by decide)->rc j (EA i x A s f c))->(EA i x A s f c).units+64<cLine->N.Nodup->(∀(e:Value) (s:Shared),False->False)->PX (Kg (jj P w K) P w K mg base N x (Ac (top i)) f c A o s H E) m (af (top i)) g)(hm:∀BH F' H',m BH F' H' .non .non:=by first|exact Xy _|exact ME)(hi:DL.lookup x=some i:=by decide +kernel)(S:SA i N p:=by exact⟨rfl,rfl,rfl,by decide +kernel,rfl,by decide +kernel,by decide +kernel⟩)(B:Bd x (top i) (N.take p):=by first|exact fA λ_ _ _ _ _ _ _=>rfl|exact lG λ_ _ _ _ _ _ _ _=>rfl|exact gA λ_ _ _ _ _ _ _ _ _=>rfl)(hp:(N.take p).length=p:=by rfl)(hn:N.length=n:=by rfl):Am P w K mg base (k+1) x m (Zc p n g):=
 lS S (Z.A _ _ hi) B (.inl hm) (λ_ _ _ _ _ _ _ hr hu hn hx=>hb Z.T (λh=>hr.mono h) hu hn hx) hp hn
variable(Z:Z0 P w K mg base)
include Z
theorem pB:CP Z 1 "is_element" Xg:=ck 19 ["table","number"] Z λT r u d x=>(La (Bb (((ED (m:=.k) (iN (m:=.k) (ja 1) Ga) (DD (fN (m:=.k) (ja 1) (Wb T (ja 0)))))))))
theorem qB:CQ Z 2 "ask_table" Bm:=cx 16 ["table","size","row","number"] Z λT r u d x=>(lc (bA (ub d 1 (Wb T (ja 0)))) (lc (oe (Xi (Qy (Fp (ja 1) Ga) (Py (lm (ja 1) (rD (m:=.k) (hm:=Z.M)))))) (vd (al 0 Z.C rfl (by kernel_rfl))) me) (vd (kG rfl rfl (zd (ja 0)) (Rc d 2) (λE=>(lc (oe (Ci u (Wb T (ja 2)) (ja 1)) (vd (al 0 Z.C rfl (by kernel_rfl))) me) (vd (oe (Xm (Qk (Ur (m:=.k) T (qf x d 3 (zd (ja 2)) (λ_ _ _ _ _ _=>(Sb (pB Z) r (Aa 0 (Aa 3 Ea)))))))) (vd (al 0 Z.C rfl (by kernel_rfl))) me))))))))
theorem lX:CP Z 1 "find_three" Wv:=ck 21 ["table","size","a","b","c"] Z λT r u d x=>(Ia (ub d 1 (Wb T (ja 0))) (Ia (Uc (Qc T (ja 1)) (Rc d 2) (La (Uc (Qc T (ja 1)) (Rc d 3) (La (Uc (Qc T (ja 1)) (Rc d 4) (La (Gc (Ci u (wb (wb (ja 0) (wb (wb (ja 0) (ja 2)) (ja 3))) (ja 4)) (wb (wb (ja 0) (ja 2)) (wb (wb (ja 0) (ja 3)) (ja 4)))) (La (Bb (Mj (Ja Kd (Aa 2 (Aa 3 (Aa 4 Ea))))))) Dc))))))) (La (Bb Gq))))
theorem zo:CP Z 1 "find_rest" Mh:=ck 22 ["table","size","still","a"] Z λT r u d x=>(Ia (ub d 1 (Wb T (ja 0))) (Ia (Uc (Qc T (ja 1)) (Rc d 2) (La (Gc (Qk (Ur (m:=.k) T (qf x d 3 (Qc T (ja 1)) (λ_ _ _ _ _ _=>(((ED (m:=.k) (Kr (m:=.k) u (wb (wb (ja 0) (ja 2)) (ja 3)) (ja 3)) (DD (Kr (m:=.k) u (wb (wb (ja 0) (ja 3)) (ja 2)) (ja 3)))))))))) (La (Bb (ja 2))) Dc))) (La (Bb Gq))))
theorem MI:CP Z 1 "find_back" dq:=ck 23 ["table","still","element","other"] Z λT r u d x=>(Ia (Uc (Qc T (Wb T (ja 0))) (Rc d 3) (La (Gc (Xi (qm (kc u (wb (wb (ja 0) (ja 2)) (ja 3)) (ja 1)) (om (kc u (wb (wb (ja 0) (ja 3)) (ja 2)) (ja 1))))) (La (Bb (ja 3))) Dc))) (La (Bb Gq)))
theorem NI:CP Z 2 "find_flaw" Wn:=ck 20 ["table","three","still","element"] Z λT r u d x=>(Ia (ub d 1 (Sb (lX Z) r (Aa 0 Ea))) (Ia (Gc (Nr (ja 1)) (La (Bb (ja 1))) Dc) (Ia (ub d 2 (Sb (zo Z) r (Aa 0 Ea))) (Ia (Gc (CD (ja 2)) (La (Bb (Mj (Ja Kd Ea)))) Dc) (Ia (Uc (Qc T (Wb T (ja 0))) (Rc d 3) (La (Gc (CD (Sb (MI Z) r (Aa 0 (Aa 2 (Aa 3 Ea))))) (La (Bb (Mj (Ja Kd (Aa 3 Ea))))) Dc))) (La (Bb Gq)))))))
theorem mX:CQ Z 3 "flaw" kt:=cx 11 ["table"] Z λT r u d x=>(lc (Ic (qB Z) r (Aa 0 Ea)) (Eg (La (Bb (Sb (NI Z) r (Aa 0 Ea))))))
theorem kh:CQ Z 3 "ask_folk" Me:=cx 17 ["table"] Z λT r u d x=>(lc (Ic (qB Z) r (Aa 0 Ea)) (vd (oe (Nr (Sb (NI Z) r (Aa 0 Ea))) (vd (al 1 Z.C rfl (by kernel_rfl))) me)))
theorem nX:CQ Z 4 "rest" gq:=cx 12 ["table"] Z λT r u d x=>(lc (Ic (kh Z) r (Aa 0 Ea)) (Eg (La (Bb (Sb (zo Z) r (Aa 0 Ea))))))
theorem Uw:CQ Z 2 "ask_element" Ei:=cx 18 ["table","element"] Z λT r u d x=>(vd (oe (Xm (Qk (Sb (pB Z) r (Aa 0 (Aa 1 Ea))))) (vd (al 2 Z.C rfl (by kernel_rfl))) me))
theorem oX:CQ Z 4 "back" Yn:=cx 13 ["table","element"] Z λT r u d x=>(lc (Ic (kh Z) r (Aa 0 Ea)) (lc (Ic (Uw Z) r (Aa 0 (Aa 1 Ea))) (Eg (La (Bb (Sb (MI Z) r (Aa 0 (Ja (Sb (zo Z) r (Aa 0 Ea)) (Aa 1 Ea)))))))))
theorem OI:CP Z 2 "one_round" iq:=ck 24 ["table","element","still","made","latest"] Z λT r u d x=>(Ia (ub d 2 (Sb (zo Z) r (Aa 0 Ea))) (Ia (bi d 3 (Eh (Aa 2 Ea))) (Ia (ub d 4 (ja 1)) (Ia (uv 1000 (Ci u (ja 4) (ja 2)) (Ia (tm 3 (ja 4)) (La (ub d 4 (wb (wb (ja 0) (ja 4)) (ja 1)))))) (Ef 3 (La (Bb (ja 3))))))))
theorem pX:CQ Z 4 "order" Zn:=cx 14 ["table","element"] Z λT r u d x=>(lc (Ic (kh Z) r (Aa 0 Ea)) (lc (Ic (Uw Z) r (Aa 0 (Aa 1 Ea))) (Eg (La (Bb (Wb T (Sb (OI Z) r (Aa 0 (Aa 1 Ea)))))))))
theorem qX:CQ Z 4 "done" ao:=cx 15 ["table","element","times","made"] Z λT r u d x=>(lc (Ic (kh Z) r (Aa 0 Ea)) (lc (Ic (Uw Z) r (Aa 0 (Aa 1 Ea))) (Eg (Ia (ub d 3 (Sb (OI Z) r (Aa 0 (Aa 1 Ea)))) (La (Bb (wb (ja 3) (gd (ja 2) (Wb T (ja 3))))))))))
theorem rX:CP Z 1 "are_of_one_kind" iA:=ck 29 ["table","one","other","a"] Z λT r u d x=>(La (Bb (fQ (m:=.k) T (qf x d 3 (Qc T (Wb T (ja 0))) (λ_ _ _ _ _ _=>((Kr (m:=.k) u (wb (wb (ja 0) (ja 3)) (ja 1)) (wb (wb (ja 0) (ja 2)) (ja 3)))))))))
theorem sX:CP Z 2 "kind_of" Xv rN:=ck 28 ["table","element","other"] Z λT r u d x=>(La (cg (ae.n (ze.fl (jz x d 2 (Qc T (Wb T (ja 0))) (λ_ _ _ _ _ _=>(Qk (Sb (rX Z) r (Aa 0 (Aa 1 (Aa 2 Ea)))))) (λ_ _ _ _ _ _=>(ja 2)))))))
theorem uX:CQ Z 4 "kinds" jq rN:=cx 26 ["table","found","element","kind"] Z λT r u d x=>(lc (Ic (kh Z) r (Aa 0 Ea)) (Eg (Ia (Iv d 1 vz) (Ia (Uc (Qc T (Wb T (ja 0))) (Rc d 2) (Ia (xm d 3 (ae.n (Hh (sX Z) r (Aa 0 (Aa 2 Ea))))) (La (Gc (kc u (wb (ja 3) Ga) (ja 2)) (La (Jv 1 (Uk 3))) Dc)))) (Ef 1 (La (cg (Uk 1))))))))
theorem vX:CP Z 1 "makes_the_same_behind" Yv:=ck 30 ["table","element","a"] Z λT r u d x=>(La (Bb (Ur (m:=.k) T (qf x d 2 (Qc T (Wb T (ja 0))) (λ_ _ _ _ _ _=>((Kr (m:=.k) u (wb (wb (ja 0) (ja 1)) (ja 2)) (wb (wb (ja 0) (ja 2)) (ja 1)))))))))
theorem wX:CQ Z 4 "middle" kq rN:=cx 27 ["table","element"] Z λT r u d x=>(lc (Ic (kh Z) r (Aa 0 Ea)) (Eg (La (cg (ae.n (ze.fl (jz x d 1 (Qc T (Wb T (ja 0))) (λ_ _ _ _ _ _=>(Qk (Sb (vX Z) r (Aa 0 (Aa 1 Ea))))) (λ_ _ _ _ _ _=>(ja 1)))))))))
theorem xX:CP Z 1 "least_without_name" uG:=ck 35 ["names","element"] Z λT r u d x=>(Ia (ub d 1 Ga) (Ia (uv 1000 (VQ u (ja 1) (ja 0)) (La (ub d 1 (Lc (ja 1) Ga)))) (La (Bb (ja 1)))))
theorem QI:CP Z 1 "with_all_named" jA:=ck 37 ["one","other","names","wider","a","b","made","name","element"] Z λT r u d x=>(Ia (IF d 3 T (ja 2)) (Ia (Uc (Tz (ja 2)) (Rc d 4) (La (Uc (Tz (ja 2)) (Rc d 5) (Ia (ub d 6 (wb (wb (ja 0) (ja 4)) (ja 5))) (Ia (ub d 7 (wb (wb (ja 1) (Ms (m:=.k) u (ja 2) (ja 4))) (Ms (m:=.k) u (ja 2) (ja 5)))) (Ia (Gc (Ci u (WQ (m:=.k) u 3 (ja 6) (ja 7)) (ja 7)) (La (Bb Gq)) Dc) (La (Fs u 3 (ja 6) (ja 7))))))))) (Ef 3 (Ia (Gc (Fp (kR (m:=.k) T (qf x d 8 (Tz (ja 3)) (λ_ _ _ _ _ _=>(Ms (m:=.k) u (ja 3) (ja 8))))) (Nv (m:=.k) T (ja 3))) (La (Bb Gq)) Dc) (Ef 3 (La (Bb (ja 3))))))))
theorem yX:CP Z 2 "with_name" vG:=ck 36 ["one","other","names","element","name","wider","made"] Z λT r u d x=>(Ia (IF d 5 T (ja 2)) (Ia (Fs u 5 (ja 3) (ja 4)) (Ef 5 (Ia (ub d 6 (Sb (QI Z) r (Aa 0 (Aa 1 (Aa 5 Ea))))) (Ia (uv 1000 (Xi (qm (Nr (ja 6)) (om (lm (Nv (m:=.k) T (ja 6)) (Nv (m:=.k) T (ja 5)))))) (Ia (ub d 5 (ja 6)) (Ef 5 (La (ub d 6 (Sb (QI Z) r (Aa 0 (Aa 1 (Aa 5 Ea))))))))) (La (Bb (ja 6))))))))
theorem zX:CP Z 15 "find_renaming" nA rN:=by
 have all:∀n:Nat,CP Z (2+n) "find_renaming" (lA n) rN:=by
  intro n;induction n with
  |zero=>exact nS (Z.A _ 34 (by decide +kernel)) (gA λ_ _ _ _ _ _ _ _ _=>rfl) λ_=>rfl
  |succ n AX=>exact ck (k:=2+n) 34 ["one","other","names","element","name","wider","found"] Z λT r u d x=>(Ia (Gc (kc u (Nv (m:=.k) T (ja 2)) (Wb T (ja 0))) (La (cg (ae.n (ze.fl (Cv x d 3 (Qc T (Wb T (ja 0))) (λ_ _ _ _ _ _=>(Ms (m:=.k) u (ja 2) (ja 3)))))))) Dc) (Ia (ub d 3 (Sb (xX Z) (r (by omega)) (Aa 2 Ea))) (Ia (Uc (Qc T (Wb T (ja 1))) (Rc d 4) (Ia (ub d 5 (Sb (yX Z) (r (by omega)) (Aa 0 (Aa 1 (Aa 2 (Aa 3 (Aa 4 Ea))))))) (La (Gc (Nr (ja 5)) (Ia (xm d 6 (ae.n (Hh AX (r (by omega)) (Aa 0 (Aa 1 (Aa 5 Ea)))))) (La (Gc (Nr (ja 6)) (La (cg (Uk 6))) Dc))) Dc)))) (La (cg LF)))))
 exact all 13
theorem RI:CQ Z 16 "renaming" Sj rN:=cx 32 ["one","other"] Z λT r u d x=>(lc (Ic (kh Z) r (Aa 0 Ea)) (lc (Ic (kh Z) r (Aa 1 Ea)) (Eg (Ia (Gc (Ci u (Wb T (ja 0)) (Wb T (ja 1))) (La (cg LF)) Dc) (La (cg (ae.n (Hh (zX Z) r (Aa 0 (Aa 1 (Ja (aR (Sb (zo Z) r (Aa 0 Ea)) (Sb (zo Z) r (Aa 1 Ea))) Ea)))))))))))
theorem BX:CP Z 1 "made_by_pairs" nt:=ck 38 ["one","other","ahead","behind","size","a","b"] Z λT r u d x=>(Ia (ub d 4 (Wb T (ja 0))) (Ia (ub d 5 (wb (wb (ja 0) (gd (ja 2) (ja 4))) (gd (ja 3) (ja 4)))) (Ia (ub d 6 (wb (wb (ja 1) (jh (ja 2) (ja 4))) (jh (ja 3) (ja 4)))) (La (Bb (Lc (ja 5) (gh (ja 6) (ja 4))))))))
theorem SI:CQ Z 4 "beside" Fi rN:=cx 33 ["one","other","size","rows","ahead","behind"] Z λT r u d x=>(lc (Ic (kh Z) r (Aa 0 Ea)) (lc (Ic (kh Z) r (Aa 1 Ea)) (lc (bA (ub d 2 (gh (Wb T (ja 0)) (Wb T (ja 1))))) (lc (oe (lm (ja 2) (rD (m:=.k) (hm:=Z.M))) (vd (al 5 Z.C rfl (by kernel_rfl))) me) (Eg (Ia (Iv d 3 vz) (Ia (Uc (Qc T (ja 2)) (Rc d 4) (La (Jv 3 (ae.n (ze.fl (Cv x d 5 (Qc T (ja 2)) (λ_ _ _ _ _ _=>(Sb (BX Z) r (Aa 0 (Aa 1 (Aa 4 (Aa 5 Ea)))))))))))) (Ef 3 (La (cg (Uk 3)))))))))))
theorem DX:CP Z 1 "shown_row" pt:=ck 41 ["row","number"] Z λT r u d x=>(La (Bb (PF (m:=.k) (qf x d 1 (zd (ja 0)) (λ_ _ _ _ _ _=>(uR (m:=.k) T (ja 1)))))))
theorem EX:CQ Z 3 "shown" qt:=cx 40 ["table","row"] Z λT r u d x=>(lc (Ic (qB Z) r (Aa 0 Ea)) (Eg (La (Bb (PF (m:=.k) (qf x d 1 (zd (ja 0)) (λ_ _ _ _ _ _=>(Sb (DX Z) r (Aa 1 Ea)))))))))
theorem UI:CP Z 1 "with_all_made" Zv rN:=ck 50 ["table","inside","made","a","b"] Z λT r u d x=>(Ia (bi d 2 (jv T (ja 1))) (Ia (Uc (zd (ja 1)) (Rc d 3) (La (sP 2 (Cv x d 4 (zd (ja 1)) (λ_ _ _ _ _ _=>(wb (wb (ja 0) (ja 3)) (ja 4))))))) (La (cg (ae.n (OE T (Hn 2)))))))
theorem Vw:CP Z 2 "least_part" Tj rN:=ck 49 ["table","some","inside","wider"] Z λT r u d x=>(Ia (xm d 2 (ae.n (OE T (Lc (ja 1) (bc (Ja (Sb (zo Z) r (Aa 0 Ea)) Ea)))))) (Ia (xm d 3 (ae.n (Hh (UI Z) r (Aa 0 (Aa 2 Ea))))) (Ia (uv 1000 (Ci u (ja 3) (ja 2)) (Ia (xm d 2 (Uk 3)) (La (xm d 3 (ae.n (Hh (UI Z) r (Aa 0 (Aa 2 Ea)))))))) (La (cg (Uk 2))))))
theorem FX:CQ Z 4 "part_of" bo rN:=cx 43 ["table","some","element"] Z λT r u d x=>(lc (Ic (kh Z) r (Aa 0 Ea)) (lc (kG rfl rfl (zd (ja 1)) (Rc d 2) (λE=>(vd (Ic (Uw Z) r (Aa 0 (Aa 2 Ea)))))) (Eg (La (cg (ae.n (Hh (Vw Z) r (Aa 0 (Aa 1 Ea)))))))))
theorem GX:CP Z 1 "fewest_first" fo:=ck 51 ["part"] Z λT r u d x=>(La (Bb (Mj (Ja (Wb T (ja 0)) (Aa 0 Ea)))))
theorem HX:CQ Z 4 "parts" lq rN:=cx 44 ["table","found","element","part","wider"] Z λT r u d x=>(lc (Ic (kh Z) r (Aa 0 Ea)) (Eg (Ia (Iv d 1 (UP (ae.n (Hh (Vw Z) r (Aa 0 (Ja (bc (m:=.k) Ea) Ea)))))) (Ia (Uc (Qc T (Wb T (ja 0))) (Rc d 2) (La (Uc (zd (BP 1 T)) (Rc d 3) (Ia (xm d 4 (ae.n (Hh (Vw Z) r (Aa 0 (Ja (Lc (ja 3) (bc (Aa 2 Ea))) Ea))))) (La (Gc (av u (ja 4) (Hn 1)) (La (Jv 1 (Uk 4))) Dc)))))) (La (cg (wQ 1 (GX Z) r T u)))))))
theorem rB:CQ Z 3 "ask_part" io:=cx 48 ["table","part","number"] Z λT r u d x=>(lc (oe (Xm (Qk (Ur (m:=.k) T (qf x d 2 (zd (ja 1)) (λ_ _ _ _ _ _=>(Sb (pB Z) r (Aa 0 (Aa 2 Ea)))))))) (vd (al 3 Z.C rfl (by kernel_rfl))) me) (vd (oe (Ci u (Ug.d (ae.n (Hh (Vw Z) r (Aa 0 (Aa 1 Ea))))) (ja 1)) (vd (al 3 Z.C rfl (by kernel_rfl))) me)))
theorem VI:CP Z 1 "share_ahead" ut rN:=ck 52 ["table","part","element","member"] Z λT r u d x=>(La (cg (ae.n (ze.fl (xz T u (qf x d 3 (zd (ja 1)) (λ_ _ _ _ _ _=>(wb (wb (ja 0) (ja 2)) (ja 3)))))))))
theorem WI:CP Z 2 "all_shares" mq rN:=ck 54 ["table","part","found","element","share"] Z λT r u d x=>(Ia (Iv d 2 vz) (Ia (Uc (Qc T (Wb T (ja 0))) (Rc d 3) (Ia (xm d 4 (ae.n (Hh (VI Z) r (Aa 0 (Aa 1 (Aa 3 Ea)))))) (La (Gc (kc u (wb (ja 4) Ga) (ja 3)) (La (Jv 2 (Uk 4))) Dc)))) (Ef 2 (La (cg (Uk 2))))))
theorem IX:CQ Z 4 "shares" jo rN:=cx 45 ["table","part"] Z λT r u d x=>(lc (Ic (kh Z) r (Aa 0 Ea)) (lc (Ic (rB Z) r (Aa 0 (Aa 1 Ea))) (Eg (La (cg (ae.n (Hh (WI Z) r (Aa 0 (Aa 1 Ea)))))))))
theorem JX:CP Z 1 "share_behind" aw rN:=ck 53 ["table","part","element","member"] Z λT r u d x=>(La (cg (ae.n (ze.fl (xz T u (qf x d 3 (zd (ja 1)) (λ_ _ _ _ _ _=>(wb (wb (ja 0) (ja 3)) (ja 2)))))))))
theorem XI:CP Z 2 "same_on_both_sides" nq:=ck 55 ["table","part","a"] Z λT r u d x=>(La (Bb (Ur (m:=.k) T (qf x d 2 (Qc T (Wb T (ja 0))) (λ_ _ _ _ _ _=>((Kr (m:=.k) u (Ug.d (ae.n (Hh (VI Z) r (Aa 0 (Aa 1 (Aa 2 Ea)))))) (Ug.d (ae.n (Hh (JX Z) r (Aa 0 (Aa 1 (Aa 2 Ea)))))))))))))
theorem LX:CQ Z 4 "is_loose" ko:=cx 46 ["table","part"] Z λT r u d x=>(lc (Ic (kh Z) r (Aa 0 Ea)) (lc (Ic (rB Z) r (Aa 0 (Aa 1 Ea))) (Eg (La (Bb (Sb (XI Z) r (Aa 0 (Aa 1 Ea))))))))
theorem MX:CP Z 1 "table_of_shares" bw:=ck 56 ["table","found","place","number","share","element","heads","rows","head","other"] Z λT r u d x=>(Ia (cR d 2) (Ia (Uc (qR T (ja 1)) (rR d 3 4) (La (Uc (zd (ja 4)) (Rc d 5) (La (Fs u 2 (ja 5) (ja 3)))))) (Ia (pE x d 6 4 (zd (ja 1)) (λ_ _ _ _ _ _=>(wb (ja 4) Ga))) (Ia (bi d 7 (Eh (m:=.k) Ea)) (Ia (Uc (zd (ja 6)) (Rc d 8) (Ef 2 (La (tm 7 (qf x d 9 (zd (ja 6)) (λ_ _ _ _ _ _=>(Ms (m:=.k) u (ja 2) (wb (wb (ja 0) (ja 8)) (ja 9))))))))) (Ef 7 (La (Bb (ja 7)))))))))
theorem NX:CQ Z 4 "taken_out" ml:=cx 47 ["table","part","found"] Z λT r u d x=>(lc (Ic (kh Z) r (Aa 0 Ea)) (lc (Ic (rB Z) r (Aa 0 (Aa 1 Ea))) (lc (oe (Xm (Qk (Sb (XI Z) r (Aa 0 (Aa 1 Ea))))) (vd (al 4 Z.C rfl (by kernel_rfl))) me) (Eg (Ia (ub d 2 (Ug.d (ae.n (Hh (WI Z) r (Aa 0 (Aa 1 Ea)))))) (La (Bb (Sb (MX Z) r (Aa 0 (Aa 2 Ea))))))))))
theorem kg:CP Z 1 "_law_cell_at" qe:=ck 58 ["script","k"] Z λT r u d x=>(Ia (Gc (Fp (ja 1) (Wb T (ja 0))) (La (Bb (wb (ja 0) (ja 1)))) Dc) (La (Bb Ga)))
theorem OX:CP Z 1 "_law_draw" oq:=ck 59 ["cell","k","bound","left","j","stir"] Z λT r u d x=>(Ia (Gc (kc u (gd (ja 0) Ga) Ga) (Ia (ub d 3 (jh (ja 0) Ga)) (Ia (Uc (Qc T (ja 1)) (Rc d 4) (La (ub d 3 (jh (ja 3) (ja 2))))) (La (Bb (gd (ja 3) (ja 2)))))) Dc) (Ia (ub d 5 (gd (gh (Lc (Lc (gd (ja 0) Ga) (gh Ga (ja 1))) Ga) Ga) Ga)) (Ia (ub d 5 (gd (gh (ja 5) (ja 5)) Ga)) (Ia (ub d 5 (gd (gh (Lc (ja 5) (gh Ga (Lc (ja 1) Ga))) Ga) Ga)) (La (Bb (gd (jh (ja 5) Ga) (ja 2))))))))
theorem QX:CP Z 1 "_law_cycles" GG:=ck 60 ["dims","size","dim","table","a","row","b","made","worth"] Z λT r u d x=>(Ia (ub d 1 Ga) (Ia (Uc (zd (ja 0)) (Rc d 2) (La (ub d 1 (gh (ja 1) (ja 2))))) (Ia (bi d 3 (Eh (m:=.k) Ea)) (Ia (Uc (Qc T (ja 1)) (Rc d 4) (Ia (bi d 5 (Eh (m:=.k) Ea)) (Ia (Uc (Qc T (ja 1)) (Rc d 6) (Ia (ub d 7 Ga) (Ia (ub d 8 Ga) (Ia (Uc (zd (ja 0)) (Rc d 2) (Ia (ub d 7 (Lc (ja 7) (gh (gd (Lc (jh (ja 4) (ja 8)) (jh (ja 6) (ja 8))) (ja 2)) (ja 8)))) (La (ub d 8 (gh (ja 8) (ja 2)))))) (La (tm 5 (ja 7))))))) (Ef 5 (La (tm 3 (ja 5))))))) (Ef 3 (La (Bb (ja 3))))))))
theorem RX:CP Z 1 "_law_twisted" HG:=ck 61 ["many","extra","table","a","row","b","turn","both","made"] Z λT r u d x=>(Ia (bi d 2 (Eh (m:=.k) Ea)) (Ia (Uc (Qc T (gh Ga (ja 0))) (Rc d 3) (Ia (bi d 4 (Eh (m:=.k) Ea)) (Ia (Uc (Qc T (gh Ga (ja 0))) (Rc d 5) (Ia (ub d 6 (wb (bc (Ja (gd (ja 5) (ja 0)) (Ja (Cp (m:=.k) Ga (gd (ja 5) (ja 0))) Ea))) (jh (ja 3) (ja 0)))) (Ia (ub d 7 (gh (jh (ja 3) (ja 0)) (jh (ja 5) (ja 0)))) (Ia (ub d 8 (gd (Lc (Lc (gd (ja 3) (ja 0)) (ja 6)) (gh (ja 1) (ja 7))) (ja 0))) (La (tm 4 (Lc (ja 8) (gh (ja 0) (gd (Lc (jh (ja 3) (ja 0)) (jh (ja 5) (ja 0))) Ga))))))))) (Ef 4 (La (tm 2 (ja 4))))))) (Ef 2 (La (Bb (ja 2))))))
theorem SX:CP Z 1 "_law_even" IG:=ck 62 ["lines","k","longer","line","x","some","wrong","j","table","one","two"] Z λT r u d x=>(Ia (ub d 0 (bc (Ja (bc (m:=.k) Ea) Ea))) (Ia (Uc (Qc T Ga) (Rc d 1) (Ia (ub d 2 (bc (m:=.k) Ea)) (Ia (Uc (zd (ja 0)) (Rc d 3) (La (ub d 2 (Lc (ja 2) (On x d 4 (Qc T Ga) (λ_ _ _ _ _ _=>(av u (ja 4) (ja 3))) (λ_ _ _ _ _ _=>(Lc (ja 3) (bc (Aa 4 Ea))))))))) (La (ub d 0 (ja 2)))))) (Ia (bi d 5 (Eh (m:=.k) Ea)) (Ia (Uc (zd (ja 0)) (Rc d 3) (Ia (ub d 6 Ga) (Ia (Uc (Qc T Ga) (Rc d 7) (La (ub d 6 (Lc (ja 6) (Wb T (On x d 1 (Qc T (ja 7)) (λ_ _ _ _ _ _=>(lm (wb (ja 3) (ja 1)) (wb (ja 3) (ja 7)))) (λ_ _ _ _ _ _=>(ja 1)))))))) (La (Gc (kc u (gd (ja 6) Ga) Ga) (La (tm 5 (ja 3))) Dc))))) (Ia (bi d 8 (Eh (m:=.k) Ea)) (Ef 5 (Ia (Uc (zd (ja 5)) (Rc d 9) (Ef 5 (La (tm 8 (qf x d 10 (zd (ja 5)) (λ_ _ _ _ _ _=>(uE (m:=.k) u (Hn 5) (qf x d 4 (zd (ja 9)) (λ_ _ _ _ _ _=>(wb (ja 10) (ja 4))))))))))) (Ef 8 (La (Bb (ja 8)))))))))))
theorem TX:CP Z 2 "_law_base" Cm:=ck 63 ["kind","dims","pair"] Z λT r u d x=>(Ia (ub d 1 (bc (Ja (bc (Ja Ga Ea)) (Ja (bc (Ja Ga Ea)) (Ja (bc (Ja Ga Ea)) (Ja (bc (Ja Ga Ea)) (Ja (bc (Ja Ga (Ja Ga Ea))) (Ja (bc (Ja Ga Ea)) (Ja (bc (Ja Ga Ea)) (Ja (bc (Ja Ga Ea)) (Ja (bc (Ja Ga Ea)) Ea))))))))))) (Ia (ub d 1 (Lc (ja 1) (bc (Ja (bc (Ja Ga (Ja Ga Ea))) (Ja (bc (Ja Ga (Ja Ga (Ja Ga Ea)))) (Ja (bc (Ja Ga Ea)) (Ja (bc (Ja Ga (Ja Ga Ea))) (Ja (bc (Ja Ga Ea)) (Ja (bc (Ja Ga Ea)) (Ja (bc (Ja Ga Ea)) (Ja (bc (Ja Ga (Ja Ga Ea))) Ea))))))))))) (Ia (Gc (Fp (ja 0) Ga) (La (Bb (Sb (QX Z) r (Ja (wb (ja 1) (ja 0)) Ea)))) Dc) (Ia (Gc (Fp (ja 0) Ga) (Ia (ub d 2 (wb (bc (Ja (Mj (Ja Ga (Ja Ga Ea))) (Ja (Mj (Ja Ga (Ja Ga Ea))) (Ja (Mj (Ja Ga (Ja Ga Ea))) (Ja (Mj (Ja Ga (Ja Ga Ea))) (Ja (Mj (Ja Ga (Ja Ga Ea))) (Ja (Mj (Ja Ga (Ja Ga Ea))) Ea))))))) (Cp (m:=.k) (ja 0) Ga))) (La (Bb (Sb (RX Z) r (Ja (wb (ja 2) Ga) (Ja (wb (ja 2) Ga) Ea)))))) Dc) (La (Bb (MN (SX Z) r)))))))
omit Z in
theorem UX:∀env Oa,oA env≠some (.nx,Oa):=λenv Oa h=>by unfold oA at h;obtain⟨e1,_,h⟩:=Tw h;obtain⟨e2,_,h⟩:=Tw h;obtain⟨e3,_,h⟩:=Tw h;obtain⟨e4,_,h⟩:=Tw h;unfold bp at h;split at h<;>cases h
theorem VX:CP Z 2 "_law_renamed" pA (rT K):=ck (hm:=.inr UX) 64 ["base","cell","names","k","table","row","a","b"] Z λT r u d x=>(Ia (bi d 2 (Eh (m:=.k) Ea)) (Ia (Uc (Qc T (Wb T (ja 0))) (Rc d 3) (La (GN 2 (gd (Sb (OX Z) r (Aa 1 (Aa 3 (Ja Ga Ea)))) (Lc (ja 3) Ga)) (ja 3)))) (Ia (wO x d 4 5 (zd (ja 0)) (λ_ _ _ _ _ _=>(jv T (ja 5))) (λ_ _ h=>lv h)) (Ia (Uc (Qc T (Wb T (ja 0))) (Rc d 6) (La (Uc (Qc T (Wb T (ja 0))) (Rc d 7) (La (OD 4 (wb (Hn 2) (ja 6)) (wb (Hn 2) (ja 7)) (sD (m:=.k) (wb (Hn 2) (wb (wb (ja 0) (ja 6)) (ja 7))))))))) (La (PN 4))))))
omit Z in
theorem WX:∀env Oa,qA env≠some (.nx,Oa):=λenv Oa h=>by unfold qA Na at h;split at h<;>cases h
theorem XX:CP Z 3 "_law_folk_by" cw (rT K):=ck (hm:=.inr WX) 65 ["script","first"] Z λT r u d x=>(La (VD (vv (VX Z) r (Ja (Sb (TX Z) r (Ja (gd (Sb (kg Z) r (Aa 0 (Aa 1 Ea))) Ga) Ea)) (Ja (Sb (kg Z) r (Aa 0 (Ja (Lc (ja 1) Ga) Ea))) Ea)))))
theorem YI:CP Z 1 "_law_still" dw:=ck 66 ["table","e"] Z λT r u d x=>(La (Bb (wb (On x d 1 (Qc T (Wb T (ja 0))) (λ_ _ _ _ _ _=>(kc u (wb (ja 0) (ja 1)) (BO (m:=.k) T (Wb T (ja 0))))) (λ_ _ _ _ _ _=>(ja 1))) Ga)))
omit Z in
theorem YX:∀env Oa,rA env≠some (.nx,Oa):=λenv Oa h=>by unfold rA Na at h;split at h<;>cases h
theorem ZI:CP Z 1 "_law_copy" ql (rT K):=ck (hm:=.inr YX) 67 ["table","row"] Z λT r u d x=>(La (VD (yR x d 1 (zd (ja 0)) (λ_ _ _ _ _ _=>(jv T (ja 1))) (λ_ _ h=>lv h))))
theorem ZX:CP Z 1 "_law_chosen" sA:=ck 68 ["some","many","found","one","row"] Z λT r u d x=>(Ia (ub d 2 (bc (Ja (bc (m:=.k) Ea) Ea))) (Ia (Uc (zd (ja 0)) (Rc d 3) (La (ub d 2 (Lc (ja 2) (On x d 4 (zd (ja 2)) (λ_ _ _ _ _ _=>(Fp (Wb T (ja 4)) (ja 1))) (λ_ _ _ _ _ _=>(Lc (ja 4) (bc (Aa 3 Ea))))))))) (La (Bb (On x d 4 (zd (ja 2)) (λ_ _ _ _ _ _=>(kc u (Wb T (ja 4)) (ja 1))) (λ_ _ _ _ _ _=>(ja 4)))))))
theorem aY:CP Z 1 "_law_shut" uA:=ck 70 ["table","row","a","b"] Z λT r u d x=>(Ia (Uc (zd (ja 1)) (Rc d 2) (La (Uc (zd (ja 1)) (Rc d 3) (La (Gc (av u (wb (wb (ja 0) (ja 2)) (ja 3)) (ja 1)) (La (Bb Fq)) Dc))))) (La (Bb Fq)))
theorem bY:CP Z 2 "_law_parts" vA:=ck 69 ["table","still","others","e","found","size","here","row"] Z λT r u d x=>(Ia (ub d 1 (Sb (YI Z) r (Aa 0 Ea))) (Ia (qE x d 2 3 (Qc T (Wb T (ja 0))) (λ_ _ _ _ _ _=>(Ci u (ja 3) (ja 1))) (λ_ _ _ _ _ _=>(ja 3))) (Ia (ub d 4 (bc (m:=.k) Ea)) (Ia (Uc (KN T Ga (Lc (Wb T (ja 0)) Ga)) (Rc d 5) (La (Gc (kc u (gd (Wb T (ja 0)) (ja 5)) Ga) (Ia (pE x d 6 7 (zd (Sb (ZX Z) r (Aa 2 (Ja (Cp (m:=.k) (ja 5) Ga) Ea)))) (λ_ _ _ _ _ _=>(Kv T u (Lc (bc (Aa 1 Ea)) (ja 7))))) (La (ub d 4 (Lc (ja 4) (Kv T u (On x d 7 (zd (ja 6)) (λ_ _ _ _ _ _=>(Qk (Sb (aY Z) r (Aa 0 (Aa 7 Ea))))) (λ_ _ _ _ _ _=>(ja 7)))))))) Dc))) (La (Bb (ja 4)))))))
theorem cY:cq P w K mg base 1 "_law_word_of" vt:=mS (N:=["e","some"]) ⟨rfl,rfl,rfl,by decide +kernel,rfl,by decide +kernel,by decide +kernel⟩ (Z.A _ 71 (by decide +kernel)) (fA λ_ _ _ _ _ _ _=>rfl) λf cdv A outer s H hr u d=>(λT=>(Ia (ub d 1 (bc (Ja (Sn (m:=.k) 0 0 T Z.F (by decide) (by kernel_rfl)) (Ja (Sn (m:=.k) 0 1 T Z.F (by decide) (by kernel_rfl)) (Ja (Sn (m:=.k) 0 2 T Z.F (by decide) (by kernel_rfl)) Ea))))) (Ia (ub d 1 (Lc (ja 1) (bc (Ja (Sn (m:=.k) 0 3 T Z.F (by decide) (by kernel_rfl)) (Ja (Sn (m:=.k) 0 4 T Z.F (by decide) (by kernel_rfl)) (Ja (Sn (m:=.k) 0 5 T Z.F (by decide) (by kernel_rfl)) Ea)))))) (Ia (ub d 1 (Lc (ja 1) (bc (Ja (Sn (m:=.k) 0 6 T Z.F (by decide) (by kernel_rfl)) Ea)))) (Ia (Gc (Xi (Qy (Ci u (aS (m:=.k) u (ja 1) Fq) Ga) (Py (Xm (Qk (NR (m:=.k) 0 T Z.v Z.F)))))) (La (Bb Kd)) Dc) (La (Bb (wb (bc (Ja Kd (Ja Kd (Ja Kd (Ja Kd (Ja Kd (Ja Kd (Ja Kd Ea)))))))) (uE (m:=.k) u (ja 1) Fq))))))))) Z.T
omit Z in
theorem dY:∀c d,vt c=some d->c∈([0,1,2,3,4,5]:List Nat):=λc d h=>by
 cases hc:decide (c∈([0,1,2,3,4,5]:List Nat))with
 |true=>exact X2 hc
 |false=>have hc:=Q3 hc;simp only[vt,Vs,LG,ua,Sa,Xa,evs,Rj,List.getElem?_cons_zero,B2 hc]at h;cases h
theorem eY:CQ Z 5 "_law_first" oo:=cx 72 ["which","table","element"] Z λT r u d x=>(lc (oe (kc u (ja 0) Ga) (vd (Ic (mX Z) r (Aa 1 Ea))) me) (lc (oe (kc u (ja 0) Ga) (vd (Ic (EX Z) r (Aa 1 Ea))) me) (lc (oe (kc u (ja 0) Ga) (vd (Ic (nX Z) r (Aa 1 Ea))) me) (lc (oe (kc u (ja 0) Ga) (vd (Ic (HX Z) r (Aa 1 Ea))) me) (lc (oe (kc u (ja 0) Ga) (vd (Ic (uX Z) r (Aa 1 Ea))) me) (lc (oe (kc u (ja 0) Ga) (vd (Ic (wX Z) r (Aa 1 Ea))) me) (lc (oe (kc u (ja 0) Ga) (vd (Ic (oX Z) r (Aa 1 (Aa 2 Ea)))) me) (lc (oe (kc u (ja 0) Ga) (vd (Ic (pX Z) r (Aa 1 (Aa 2 Ea)))) me) (lc (oe (kc u (ja 0) Ga) (vd (Ic (qX Z) r (Aa 1 (Aa 2 (Ja Ga Ea))))) me) (vd (oe (kc u (ja 0) Ga) (vd (Ic (FX Z) r (Aa 1 (Ja (bc (Ja Ga (Aa 2 Ea))) Ea)))) me)))))))))))
theorem fY:CQ Z 17 "_law_second" qo:=cx 73 ["which","table","part","good"] Z λT r u d x=>(lc (bA (ub d 3 (bc (Ja (bc (Ja Ga (Ja Ga Ea))) (Ja (bc (Ja Ga (Ja Ga Ea))) Ea))))) (lc (oe (kc u (ja 0) Ga) (vd (Ic (IX Z) r (Aa 1 (Aa 2 Ea)))) me) (lc (oe (kc u (ja 0) Ga) (vd (Ic (LX Z) r (Aa 1 (Aa 2 Ea)))) me) (lc (oe (kc u (ja 0) Ga) (vd (Ic (NX Z) r (Aa 1 (Aa 2 Ea)))) me) (lc (oe (kc u (ja 0) Ga) (vd (Ic (RI Z) r (Aa 1 (Aa 3 Ea)))) me) (lc (oe (kc u (ja 0) Ga) (vd (Ic (RI Z) r (Aa 3 (Aa 1 Ea)))) me) (lc (oe (kc u (ja 0) Ga) (vd (Ic (SI Z) r (Aa 1 (Aa 3 Ea)))) me) (vd (oe (kc u (ja 0) Ga) (vd (Ic (SI Z) r (Aa 3 (Aa 1 Ea)))) me)))))))))
theorem gY:CP Z 18 "_law_tried" pq:=ck 74 ["which","table","element","part","e"] Z λT r u d x=>(Ia (TR 4 rfl rfl d Z.F dY cS (cY Z) r (λE=>(lc (Ic (eY Z) r (Aa 0 (Aa 1 (Aa 2 Ea)))) (vd (Ic (fY Z) r (Aa 0 (Aa 1 (Aa 3 Ea)))))))) (La (Bb Kd)))
theorem iY:CP Z 2 "_law_bad_table" xA:=ck 75 ["script","table","way","at","to","far","found","element","b","a"] Z λT r u d x=>(Ia (ub d 3 (gd (Sb (kg Z) r (Aa 0 (Ja Ga Ea))) (Wb T (ja 1)))) (Ia (ub d 4 (gd (Sb (kg Z) r (Aa 0 (Ja Ga Ea))) (Wb T (ja 1)))) (Ia (ub d 5 (gd (Sb (kg Z) r (Aa 0 (Ja Ga Ea))) (Ky (m:=.k) Ga Ga))) (Ia (ON d 6 (vv (ZI Z) r (Aa 1 Ea))) (Ia (Gc (kc u (ja 2) Ga) (La (Bb (bc (m:=.k) Ea))) Dc) (Ia (Gc (kc u (ja 2) Ga) (La (vR 6 (ja 3) (ja 4))) Dc) (Ia (Gc (kc u (ja 2) Ga) (La (xR 6 (ja 3) (ja 4))) Dc) (Ia (Gc (kc u (ja 2) Ga) (Ef 6 (La (Bb (Lc (ja 6) (bc (Ja (qf x d 7 (zd (ja 1)) (λ_ _ _ _ _ _=>Ga)) Ea)))))) Dc) (Ia (Gc (kc u (ja 2) Ga) (La (OD 6 (ja 3) (ja 4) (wb (bc (Ja (Lc (Wb T (ja 1)) (ja 5)) (Ja (Cp (m:=.k) (Dr (m:=.k)) (ja 5)) Ea))) (gd (Sb (kg Z) r (Aa 0 (Ja Ga Ea))) Ga)))) Dc) (Ia (Gc (kc u (ja 2) Ga) (La (Bb (qf x d 9 (Qc T Ga) (λ_ _ _ _ _ _=>(qf x d 8 (Qc T Ga) (λ_ _ _ _ _ _=>(gd (Lc (ja 9) (ja 8)) Ga))))))) Dc) (Ef 6 (La (Bb (ja 6))))))))))))))
theorem jY:CP Z 2 "_law_bad_part" yA:=ck 76 ["script","table","part","way","far","still","others","element","at"] Z λT r u d x=>(Ia (ub d 4 (gd (Sb (kg Z) r (Aa 0 (Ja Ga Ea))) (Ky (m:=.k) Ga Ga))) (Ia (ub d 5 (Sb (YI Z) r (Aa 1 Ea))) (Ia (qE x d 6 7 (Qc T (Wb T (ja 1))) (λ_ _ _ _ _ _=>(Ci u (ja 7) (ja 5))) (λ_ _ _ _ _ _=>(ja 7))) (Ia (Gc (kc u (ja 3) Ga) (La (Bb (bc (m:=.k) Ea))) Dc) (Ia (Gc (kc u (ja 3) Ga) (La (Bb (Lc (ja 2) (bc (Ja (wb (ja 2) (Dr (m:=.k))) Ea))))) Dc) (Ia (Gc (kc u (ja 3) Ga) (La (Bb (Lc (ja 2) (bc (Ja (Lc (Wb T (ja 1)) (ja 4)) Ea))))) Dc) (Ia (Gc (kc u (ja 3) Ga) (La (Bb (Lc (bc (Ja (Cp (m:=.k) (Dr (m:=.k)) (ja 4)) Ea)) (ja 2)))) Dc) (Ia (Gc (Xi (qm (kc u (ja 3) Ga) (om (lm (Wb T (ja 2)) Ga)))) (La (Bb (Lc (Sr (ja 2) (Rr Ga) Qr) (Sr (ja 2) Qr (Rr Ga))))) Dc) (Ia (Gc (kc u (ja 3) Ga) (La (Uc (Qc T (Wb T (ja 1))) (Rc d 8) (Ia (ub d 7 (gd (Lc (ja 4) (ja 8)) (Wb T (ja 1)))) (La (Gc (av u (wb (wb (ja 1) (ja 7)) (ja 7)) (bc (Aa 5 (Aa 7 Ea)))) (La (Bb (Kv T u (bc (Aa 5 (Aa 7 Ea)))))) Dc))))) Dc) (Ia (Gc (Xi (qm (kc u (ja 3) Ga) (om (lm (Wb T (ja 6)) Ga)))) (La (Bb (Kv T u (Lc (bc (Aa 5 Ea)) (Sr (ja 6) Qr (Rr Ga)))))) Dc) (La (Bb (On x d 7 (zd (ja 2)) (λ_ _ _ _ _ _=>(Ci u (ja 7) (ja 5))) (λ_ _ _ _ _ _=>(ja 7)))))))))))))))
theorem kY{f:Addr}{fd:FuncData}(F:Si K "law" "law" (top 77) f fd):Ce P w K mg base uf 19 f fd ["script"] (di K (rk K .k) wt):=YD (N:=["script","table","known","part","far","element","due","b","a","row","which","wanted","told"]) (ps:=["script"]) (k:=18) (m:=rk K .k) (g:=NG) F ⟨rfl,rfl,rfl,by decide +kernel,rfl,by decide +kernel,by decide +kernel⟩ (.inl (Xy _)) λcdv A outer s H E hr=>by
 have T:=Z.T;have r:{j:Nat}->(h:j<=18:=by decide)->rc j _:=λh=>hr.mono h;have u:=hr.units;have d:List.Nodup (α:=Str) ["script","table","known","part","far","element","due","b","a","row","which","wanted","told"]:=by decide +kernel
 have x:∀(e:Value) (s:Shared),False->False:=λ_ _ h=>h;exact(Ia (ub d 1 ((um.k (vv (XX Z) r (Aa 0 (Ja Ga Ea)))))) (Ia (ub d 2 (Sb (bY Z) r (Aa 1 Ea))) (Ia (ub d 3 (wb (ja 2) (gd (Sb (kg Z) r (Aa 0 (Ja Ga Ea))) (Wb T (ja 2))))) (Ia (ub d 4 (gd (Sb (kg Z) r (Aa 0 (Ja Ga Ea))) (Ky (m:=.k) Ga Ga))) (Ia (ub d 5 (gd (Sb (kg Z) r (Aa 0 (Ja Ga Ea))) (Wb T (ja 1)))) (Ia (bi d 6 (Eh (Ja Kd (Ja Kd (Ja Kd (Ja Kd Ea)))))) (Ia (Gc (kc u (gd (Sb (kg Z) r (Aa 0 (Ja Ga Ea))) Ga) Ga) (Ia (ub d 5 (wb (bc (Ja (Dr (m:=.k)) (Ja (Wb T (ja 1)) (Ja (Cp (m:=.k) (Dr (m:=.k)) (ja 4)) (Ja (Lc (Wb T (ja 1)) (ja 4)) Ea))))) (gd (jh (Sb (kg Z) r (Aa 0 (Ja Ga Ea))) Ga) Ga))) (La (ND 6 Ga Kd))) Dc) (Ia (Gc (kc u (gd (Sb (kg Z) r (Aa 0 (Ja Ga Ea))) Ga) Ga) (Ia (ub d 3 (Sb (jY Z) r (Aa 0 (Aa 1 (Aa 3 (Ja (gd (jh (Sb (kg Z) r (Aa 0 (Ja Ga Ea))) Ga) Ga) Ea)))))) (La (ND 6 Ga Kd))) Dc) (Ia (Gc (kc u (gd (Sb (kg Z) r (Aa 0 (Ja Ga Ea))) Ga) Ga) (Ia (ub d 1 (Sr (qf x d 8 (Qc T (Lc (Wb T (ja 1)) Ga)) (λ_ _ _ _ _ _=>(qf x d 7 (Qc T (Lc (Wb T (ja 1)) Ga)) (λ_ _ _ _ _ _=>(AN (m:=.k) T (ja 8) (ja 7)))))) Qr (Rr Ga))) (Ia (ub d 1 (qf x d 9 (zd (ja 1)) (λ_ _ _ _ _ _=>(Sr (ja 9) Qr (Rr (Wb T (ja 1))))))) (La (bi d 6 (Eh (Ja Kd (Ja Kd (Ja Kd (Ja Kd Ea))))))))) Dc) (Ia (Gc (kc u (gd (Sb (kg Z) r (Aa 0 (Ja Ga Ea))) Ga) Ga) (Ia (ub d 1 (Sb (iY Z) r (Aa 0 (Aa 1 (Ja (gd (jh (Sb (kg Z) r (Aa 0 (Ja Ga Ea))) Ga) Ga) Ea))))) (La (bi d 6 (Eh (Ja Kd (Ja Kd (Ja Kd (Ja Kd Ea)))))))) Dc) (Ia (Uc (Qc T Ga) (Rc d 10) (Ia (ub d 11 (sD (m:=.k) (wb (Hn 6) (Lc (Lc (Vz (m:=.k) T ((Ny (m:=.k) (ja 10) Ga))) (Vz (m:=.k) T ((Ny (m:=.k) (ja 10) Ga)))) (Vz (m:=.k) T ((Ny (m:=.k) (ja 10) Ga))))))) (Ia (Gc (Xi (qm (lm (ja 10) Ga) (om (kc u (ja 11) Kd)))) (La (ub d 11 Kd)) Dc) (Ia (ub d 12 (Sb (gY Z) r (Aa 10 (Ja ((um.k (vv (ZI Z) r (Aa 1 Ea)))) (Aa 5 (Ja (BN T (ja 3)) Ea)))))) (Ia (Gc (Xi (qm (kc u (ja 11) Kd) (om (Xi (Qy (Xi (qm (kc u (ja 10) Ga) (om (kc u (ja 12) Kd)))) (Py (Xi (qm (lm (ja 10) Ga) (om (kc u (ja 12) Kd)))))))))) (La (ub d 12 Kd)) Dc) (La (Gc (Ci u (ja 12) (ja 11)) (La (Bb Fq)) Dc))))))) (La (Bb Fq)))))))))))))
end
noncomputable def Tt(K:Frag)(mg:O0):List (Str×Nat)->Prop
 |[]=>True
 |(x,i)::r=>FA K mg x (top i)/\Tt K mg r
theorem aJ{K:Frag}{mg:O0}:∀{l:List (Str×Nat)},Tt K mg l->∀x i,l.lookup x=some i->FA K mg x (top i)
 |[],_,x,i,e=>by cases e
 |(y,j)::r,h,x,i,e=>by
  rw[R3]at e;split at e
  .rename_i hb;cases e;rw[eq_of_beq hb];exact h.1
  .exact aJ h.2 x i e
theorem lY{K:Frag}{mg:O0}{h:Heap}{f:Addr}{oc:Value}{od an:Option Addr}{osl:Array (Option Value)}{kV doc pm cdv ct:Value}{x:Str}{i:Nat}{r:List (Str×Nat)}(X:K.In h)(G:h.Ns mainGlobals mg)(a:nsIn K mainGlobals x=some (some (.ref f)))(l:K.lookup f=some ⟨oc,od,.func (fnOf x x (xi (top i)) (af (top i)) (Ac (top i)) .none kV doc pm an cdv ct),osl⟩)(c:codeIn K cdv x=true)(k:keepIn K (.ref f)=true)(R:Tt K mg r):Tt K mg ((x,i)::r):=⟨fS X G a l c k,R⟩
noncomputable def ZN(K:Frag):Q0->Prop
 |[]=>True
 |x::r=>nsIn K mainGlobals x=some none/\ZN K r
noncomputable def NL(K:Frag):List (Str×Addr)->Prop
 |[]=>True
 |(x,C)::r=>nsIn K mainGlobals x=some (some (.ref C))/\NL K r
structure XA(K:Frag)(C F:Addr):Prop where
 x:excIn K C [.type "ValueError",.type "Exception",.type "BaseException",.type "object"] "ValueError.__new__"=true
 i:bt K C
 v:kitOne K (.ref C) (.type "ValueError")=some true
 e:exmOne K (.ref C) (.ref F)=some true
theorem all_mk{l:OpenLaw}{w:World}{K:Frag}{h:Heap}{mg:O0}{fa:Addr}(X:K.In h)(G:h.Ns mainGlobals mg)(vZ:mg "law"=some (.ref fa)){f:Addr}{od an:Option Addr}{sl:Array (Option Value)}{oc kV dc pm cd ct:Value}(a1:nsIn K mainGlobals "law"=some (some (.ref f)))(a2:K.lookup f=some ⟨oc,od,.func (fnOf "law" "law" (xi (top 77)) (af (top 77)) (Ac (top 77)) .none kV dc pm an cd ct),sl⟩)(a3:codeIn K cd "law"=true)(a4:keepIn K (.ref f)=true)(A:Tt K mg DL)(z:ZN K ["len","range","list","all","isinstance","max","int","bool","str","tuple","sorted","set","any","enumerate","dict","ValueError"]){t:Tok}(v:nsIn K mainGlobals "MOST_ROWS"=some (some (.int 12 t))){C0 C1 C2 C3 C4 C5 C6 CF:Addr}(n:NL K [("NoTable",C0),("NoFolk",C1),("NoElement",C2),("NoPart",C3),("NotLoose",C4),("TooLarge",C5),("NoNote",C6),("FolkError",CF)])(x0:XA K C0 CF)(x1:XA K C1 CF)(x2:XA K C2 CF)(x3:XA K C3 CF)(x4:XA K C4 CF)(x5:XA K C5 CF)(o:((List.range 6).map λc=>(List.range 7).map λd=>kitOne K (.ref ([C0,C1,C2,C3,C4,C5,C6].getD c 0)) (.ref ([C0,C1,C2,C3,C4,C5,C6].getD d 0)))=(List.range 6).map λc=>(List.range 7).map λd=>some (decide (c=d))):∃fd:FuncData,(∀(s:Shared) (v:Value),BindsTo s fd ⟨[v],[]⟩ [("script",v)])/\∀base:Heap,K.In base->base.Ns mainGlobals mg->Ce l.prog w K mg base uf 19 fa fd ["script"] (di K (rk K .k) wt):=by
 have e:=vZ.symm.trans (mg_of X G a1);cases e;obtain⟨z0,z1,z2,z3,z4,z5,z6,z7,z8,z9,Zj,Mi,jg,Zr,mY,nY,-⟩:=z;obtain⟨n0,n1,n2,n3,n4,n5,n6,nF,-⟩:=n;have m:∀{n:Str},nsIn K mainGlobals n=some none->mg n=none:=λe=>PySem.W.mg_none_of X G e;have q:∀c∈[0,1,2,3,4,5],XA K ([C0,C1,C2,C3,C4,C5,C6].getD c 0) CF:=λc hc=>by simp only[T1,u7,T9]at hc;rcases hc with rfl|rfl|rfl|rfl|rfl|rfl<;>assumption
 refine⟨_,λs v=>.of_eq rfl,λbase _ _=>kY (w:=w) (base:=base) ⟨⟨m z0,m z1,m z2,m z3,m z4,m z5,m z6,m z7,m z8,m z9,m Zj,m Mi,m jg,m Zr,m mY⟩,aJ A,m nY,bS (Cs:=λc=>[C0,C1,C2,C3,C4,C5,C6].getD c 0) (λc hc=>match c,hc with|0,_=>n0|1,_=>n1|2,_=>n2|3,_=>n3|4,_=>n4|5,_=>n5|6,_=>n6|k+7,h=>absurd h (by omega)) nF (by decide) (λc hc=>(q c hc).i) (λc hc d hd=>?_) (λc hc=>(q c hc).v) (λc hc=>(q c hc).e),⟨_,mg_of X G v⟩,λ{c} h=>match c,h with|0,_=>⟨⟨_,n0,x0.x⟩⟩|1,_=>⟨⟨_,n1,x1.x⟩⟩|2,_=>⟨⟨_,n2,x2.x⟩⟩|3,_=>⟨⟨_,n3,x3.x⟩⟩|4,_=>⟨⟨_,n4,x4.x⟩⟩|5,_=>⟨⟨_,n5,x5.x⟩⟩|k+6,h=>absurd h (by omega)⟩ (QC (st:=(top 77)) a2 a3 a4)⟩;have hc:c<6:=by simp only[T1,u7,T9]at hc;omega
 have:=p5 (λl=>l[c]?.bind (·[d]?)) o;simpa[hc,hd]using this
theorem walk{l:OpenLaw}{q:Program}{loose:Q0}{XP:O0->Heap->Prop}{YP:World->Heap->Prop}{d:DefRec}{K:Params->Frag}(hn:l.most=some 63)(Il:d.params.defaults=[])(hY:∀(w:World) (h:Heap),YP w h->(K w.params).In h)(F:∀(w:World) (mg:O0) (fa:Addr) (h:Heap),(K w.params).In h->h.Ns mainGlobals mg->mg d.name=some (.ref fa)->∃fd:FuncData,(∀(s:Shared) (u:Value),BindsTo s fd ⟨[u],[]⟩ [("script",u)])/\∀base:Heap,(K w.params).In base->base.Ns mainGlobals mg->Ce l.prog w (K w.params) mg base uf 19 fa fd ["script"] (di (K w.params) (rk (K w.params) .k) wt)):WalkO q loose XP YP l.row.toRowW d [] (λf vs=>PySem.call f vs):=
 L2.qM (n:=63) (k:=19) (x:="script") (CX:=λ_=>uf) (sp:=λw=>di (K w.params) (rk (K w.params) .k) wt) hn (by decide) Il ⟨rfl,by decide,by decide⟩ hY F (λ_ _ a ns hl _ hS=>oS (fX ns) hS) λ_ _ _ _ _ z=>z
end PV
set_option maxHeartbeats 0 in
theorem PySem.Challenge.cw_tablefolk_k15_refused_holds : PySem.Challenge.rw_tablefolk_k15_refused.Holds := by
  w_on; o_law; k_head; (case hw => w_witness2)
  k_fill
  refine PV.walk (l := PySem.Challenge.rw_tablefolk_k15_refused) rfl rfl (fun w h Y => PySem.W.kIn_of Y) ?F
  case F =>
    intro w mg fa h KX G hmg
    refine' PV.all_mk KX G hmg ?_ ?_ ?_ ?_ ?A ⟨?_, ?_, ?_, ?_, ?_, ?_, ?_, ?_, ?_, ?_, ?_, ?_, ?_, ?_, ?_, ?_, trivial⟩ ?_ ⟨?_, ?_, ?_, ?_, ?_, ?_, ?_, ?_, trivial⟩ ⟨?_, ⟨?_, ?_, ?_, ?_, ?_, ?_, ?_, ?_⟩, ?_, ?_⟩ ⟨?_, ⟨?_, ?_, ?_, ?_, ?_, ?_, ?_, ?_⟩, ?_, ?_⟩ ⟨?_, ⟨?_, ?_, ?_, ?_, ?_, ?_, ?_, ?_⟩, ?_, ?_⟩ ⟨?_, ⟨?_, ?_, ?_, ?_, ?_, ?_, ?_, ?_⟩, ?_, ?_⟩ ⟨?_, ⟨?_, ?_, ?_, ?_, ?_, ?_, ?_, ?_⟩, ?_, ?_⟩ ⟨?_, ⟨?_, ?_, ?_, ?_, ?_, ?_, ?_, ?_⟩, ?_, ?_⟩ ?_
    case A =>
      repeat (refine' PV.lY KX G ?_ ?_ ?_ ?_ ?_; any_goals k_is)
      exact trivial
    any_goals first | k_is | kernel_rfl
