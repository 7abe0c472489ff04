import PyProof.Rows.All
import Wide.All
import OpenK.AllK
import Wide.FinOn
import HandS.ForMost
import HandS.ForExc
import HandS.Flow
import HandS.Wide
import HandS.IsInst
import HandS.AnyAll
import HandS.TupAny
import HandS.Strs
import HandS.SortInts
import PyProof.Rows.StrMul
import HandS.SetFor
import HandS.Replace
import HandS.WideBits
import KE.GoesEnumKw
import KE.GoesMore
import KE.GoesZip
import HandS.Zip
import PyProof.GenCompD
import HandS.Ends
import PyProof.SumAny
import PyProof.ReprRoads
import HandS.EndTab
import HandS.EndOwn
import KE.KNestM
import HandS.StrMore
import HandS.Rev
import HandS.Style
import HandS.More
import KE.KRevSl
import HandS.Conv
import PyProof.ListNew
import PyProof.WalksMore
import PyProof.ReprLoop
import PyProof.FactsAll.list
import HandS.MapObj
import HandS.IterNext
import KE.KxText
import Wide.Txt
import PySem.Challenge.RW_turnpicks_k45_bundles_compared
set_option Elab.async false
set_option linter.all false
set_option maxRecDepth 100000
set_option maxHeartbeats 4000000
namespace DL
open PySem PySem.Spec PyProof.Rows L2
/-! ## new tuples, known to their objects: what is made has no dict of its own -/
section
variable {X : Cx} {pos : Pos}
theorem laidS {pins : List (Addr × Obj)} {σ : L2.St} {H : Hp} {s : Shared} {vs : List V} {us : List Value} {Q : VK} (I : Inv X pins σ H s) (r : Vals vs us) (hz : vs.length ≤ sizeLine)
    (q : ∀ p ob, H p = none → Obj.dict ob = none → Q (.ref p) (upd H p (.frz ob (.tup vs)))) : EP X pins σ Q (.ref s.heap.objs.size) { s with heap := s.heap.push { cls := .type "tuple", data := .seq us.toArray } } :=
  ⟨.ref _, _, I.laid (t' := s.toks) (o := .frz { cls := .type "tuple", data := .seq us.toArray } (.tup vs)) (fun b u e => Heap.get?_push_of_some _ e) (Nat.le_refl _) ⟨Heap.get?_push_size _ rfl, hz, us, r, IsTup.new _ _⟩, rfl, q _ _ (I.hok.fresh (Nat.le_refl _)) rfl⟩
def tTupS (t : TA) : TE := fun σ H Q => t σ H fun vs H1 => vs.length ≤ sizeLine ∧ ∀ p ob, H1 p = none → Obj.dict ob = none → Q (.ref p) (upd H1 p (.frz ob (.tup vs)))
theorem pe_tupS {es : List Expr} {t : TA} {j} (h : PA X es t) : PE X (.Tuple es j pos) (tTupS t) :=
  ⟨fun pins s σ H Q I hq => wpAny_Tuple_spliced (thn (h.run pos pins s σ H _ I hq) fun us s1 ⟨xs, H1, I1, r, z, q⟩ => ⟨(by rw [← r.length]; exact z), laidS I1 r z q⟩)⟩
/-- tuple(x) -/
def rTupS (K : PySem.W.Frag) : List V → Hp → VK → Prop := fun xs H Q => ∃ a ys, xs = [.ref a] ∧ ((SqL K H a ys ∧ ∀ p ob, H p = none → Obj.dict ob = none → Q (.ref p) (upd H p (.frz ob (.tup ys)))) ∨ (SqT K H a ys ∧ Q (.ref a) H))
theorem call_tupS : CallR X (.type "tuple") (rTupS X.K) := fun pins s σ H xs us Q I r h => by
  obtain ⟨a, ys, rfl, h⟩ := h
  obtain ⟨u, rfl, ru⟩ := vals1 r
  cases ru
  rcases h with ⟨hl, q⟩ | ⟨ht, q⟩
  · obtain ⟨vs, rv, pl, hz⟩ := I.list hl
    have hn := rv.length
    exact call_tuple_list pl.isList (fun h' kp => laidS (s := { s with heap := h' }) (I.kept (t' := s.toks) kp) rv hz q) (by simp only [List.size_toArray]; omega)
  · obtain ⟨vs, rv, pl, hz⟩ := I.tuple ht
    exact call_tuple_same pl ⟨.ref a, H, I, rfl, q⟩
/-- t + u -/
def rCatTS (K : PySem.W.Frag) : R2 := fun x y H Q => ∃ a b xs ys, x = .ref a ∧ y = .ref b ∧ SqT K H a xs ∧ SqT K H b ys ∧ xs ≠ [] ∧ xs.length + ys.length ≤ sizeLine ∧
  (ys = [] → Q (.ref a) H) ∧ (ys ≠ [] → ∀ p ob, H p = none → Obj.dict ob = none → Q (.ref p) (upd H p (.frz ob (.tup (xs ++ ys)))))
theorem op_catTS : OpR X (binaryOp .Add) (rCatTS X.K) := fun pins s σ H x y v u Q I rx ry h => by
  obtain ⟨a, b, xs, ys, rfl, rfl, ha, hb, hx, hz, q1, q2⟩ := h
  cases rx; cases ry
  obtain ⟨i1, r1, p1, _⟩ := I.tuple ha
  obtain ⟨i2, r2, p2, _⟩ := I.tuple hb
  have n1 := r1.length
  have n2 := r2.length
  exact HT.cat_tup p1 p2 (fun z => hx (r1.nil_iff.mp z)) (fun z => ⟨.ref a, H, I, rfl, q1 (r2.nil_iff.mp z)⟩) (fun z => laidS I (r1.append r2) (by rw [List.length_append]; exact hz) (q2 fun w => z (r2.nil_iff.mpr w))) (by omega)
/-- t[i:j] -/
def rSlTS (K : PySem.W.Frag) : V → Option Int → Option Int → Hp → VK → Prop := fun x lo hi H Q => ∃ a xs, x = .ref a ∧ SqT K H a xs ∧
  ((HT.sIx xs.length 0 lo = 0 ∧ HT.sIx xs.length xs.length hi = xs.length) → Q (.ref a) H) ∧ (¬ (HT.sIx xs.length 0 lo = 0 ∧ HT.sIx xs.length xs.length hi = xs.length) → ∀ p ob, H p = none → Obj.dict ob = none → Q (.ref p) (upd H p (.frz ob (.tup (cutV xs lo hi)))))
theorem sl_tupS : SlR X (rSlTS X.K) := fun pins s σ H x v vl vu lo hi sl Q I rx hs pl pu h => by
  obtain ⟨a, xs, rfl, hx, q1, q2⟩ := h
  by_cases hw : HT.sIx xs.length 0 lo = 0 ∧ HT.sIx xs.length xs.length hi = xs.length
  · exact sl_tupA pins s σ H _ v vl vu lo hi sl Q I rx hs pl pu ⟨a, xs, rfl, hx, fun _ => q1 hw, fun z => absurd hw z⟩
  · cases rx
    obtain ⟨its, r, ht, hz⟩ := I.tuple hx
    have n : its.toArray.size = xs.length := (List.size_toArray ..).trans r.length.symm
    refine ⟨"tuple", _, PyProof.Rows.slot_tuple_getitem.lookup, ht.typeIs, HT.getItem_tuple_cut ht hs pl pu (by rw [n]; exact hw) ?_ (by rw [n]; exact hz)⟩
    rw [n]
    exact laidS I ((r.drop _).take _) (Nat.le_trans (cutV_length xs lo hi) hz) (q2 hw)
end
/-! ## t[::-1] -/
theorem fm_congr {α β : Type} {f g : α → Option β} : ∀ {l : List α}, (∀ m ∈ l, f m = g m) → l.filterMap f = l.filterMap g
  | [], _ => rfl
  | a :: l, h => by rw [List.filterMap_cons, List.filterMap_cons, h a List.mem_cons_self, fm_congr fun m hm => h m (List.mem_cons_of_mem _ hm)]
section
variable {prog : Program} {w : World} {A : Around} {E : Value → Shared → Prop} {s : Shared}
theorem applied_rev {sl : Addr} {vl vu vs : Value} {n : Nat} {Q : Int × Int × Nat → Shared → Prop} (hs : s.heap.IsSliceOf sl vl vu vs) (pl : IsPart vl none) (pu : IsPart vu none) (ps : IsPart vs (some (-1)))
    (h : Q ((n : Int) - 1, -1, n) s) : wpAny (model prog w) A (Builtin.Slice.sliceApplied (.ref sl) (pure (n : Int))) Q E s := by
  obtain ⟨os, h1, h2, h3⟩ := hs
  unfold Builtin.Slice.sliceApplied Builtin.Slice.sliceFields
  refine wpAny_bind (wpAny_bind (wpAny_field h1 h3 (x := vl) rfl (wpAny_bind (wpAny_field h1 h3 (x := vu) rfl (wpAny_bind (wpAny_field h1 h3 (x := vs) rfl (wpAny_pure ?_)))))))
  refine wpAny_bind (HT.slicePart_ ps ?_)
  show wpAny _ _ (if ((-1 : Int) == 0) = true then _ else _) _ _ s
  rw [if_neg (by decide)]
  refine wpAny_bind (HT.slicePart_ pl (wpAny_bind (HT.slicePart_ pu (wpAny_bind (wpAny_pure ?_)))))
  show wpAny _ _ (pure ((n : Int) - 1, (-1 : Int), Builtin.Slice.slicePlaces ((n : Int) - 1) (-1) (-1))) _ _ s
  have e : Builtin.Slice.slicePlaces ((n : Int) - 1) (-1) (-1) = n := by
    unfold Builtin.Slice.slicePlaces
    rw [if_neg (by decide), show (-(-1 : Int)) = 1 from rfl, Int.ediv_one]
    split <;> omega
  rw [e]
  exact wpAny_pure h
theorem picks_rev (xs : Array Value) : ((List.range xs.size).filterMap fun (m : Nat) => xs[(((xs.size : Int) - 1) + (m : Int) * (-1)).toNat]?).toArray = xs.toList.reverse.toArray := by
  have e : (List.range xs.size).filterMap (fun (m : Nat) => xs[(((xs.size : Int) - 1) + (m : Int) * (-1)).toNat]?) = ((List.range xs.size).map fun k => xs.size - 1 - k).filterMap (xs[·]?) := by
    rw [List.filterMap_map]
    refine fm_congr fun m hm => ?_
    have hm := List.mem_range.mp hm
    have : (((xs.size : Int) - 1) + (m : Int) * (-1)).toNat = xs.size - 1 - m := by omega
    rw [this]; rfl
  rw [e, PySem.W.krv_range, List.filterMap_reverse, PySem.W.krv_all]
theorem getItem_rev {t sl : Addr} {items : Array Value} {vl vu vs : Value} {Q : Value → Shared → Prop} (ht : IsTup s.heap t items) (hs : s.heap.IsSliceOf sl vl vu vs) (pl : IsPart vl none) (pu : IsPart vu none) (ps : IsPart vs (some (-1)))
    (h : Q (.ref s.heap.objs.size) { s with heap := s.heap.push { cls := .type "tuple", data := .seq items.toList.reverse.toArray } }) (hz : items.size ≤ sizeLine) : wpAny (model prog w) A (getItem (.ref t) (.ref sl)) Q E s := by
  have hn : sizeOk (.seq items.toList.reverse.toArray) := by
    show items.toList.reverse.toArray.size ≤ sizeLine
    rw [List.size_toArray, List.length_reverse, Array.length_toList]
    exact hz
  obtain ⟨os, h1, h2, h3⟩ := id hs
  have hT : s.TypeIs (.ref sl) "slice" := ⟨os, h1, h2⟩
  unfold getItem
  try with_reducible refine wpAny_holding ?_
  first | refine wpAny_bind (wpAny_pure ?_) | skip
  refine wpAny_bind (wpAny_sequenceKey ht.typeIs (by decide) (wpAny_bind (wpAny_callSpecial?_slot (name := Str.ofString "__getitem__") ht.typeIs PyProof.Rows.slot_tuple_getitem (wpAny_call_entry PyProof.Rows.slot_tuple_getitem ht.typeIs entry_tuple_getitem ?_ (args_tuple_getitem _ _)))))
  show wpAny _ _ (Builtin.Tuple.tupleItemsOf (.ref t) >>= _) _ _ s
  refine wpAny_bind (tupleItemsOf_ ht (wpAny_bind (wpAny_typeOf hT ?_)))
  rw [if_pos (by decide)]
  refine wpAny_bind (applied_rev hs pl pu ps ?_)
  show wpAny _ _ (if ((((items.size : Int) - 1) == 0) && (-1 : Int) == 1 && (items.size == items.size)) = true then _ else _) _ _ s
  rw [if_neg (by simp), picks_rev]
  first
    | exact wpAny_bind (m := Builtin.Tuple.tupleExact _) (wpAny_newObj_type (wpAny_pure ⟨_, rfl, wpAny_pure h⟩) hn)
    | exact wpAny_bind (m := Builtin.Tuple.tupleExact _) (wpAny_newObj_type (wpAny_bind (wpAny_pure (wpAny_pure ⟨_, rfl, wpAny_pure h⟩))) hn)
    | exact wpAny_bind (wpAny_bind (m := Builtin.Tuple.tupleExact _) (wpAny_newObj_type (wpAny_pure (wpAny_pure ⟨_, rfl, wpAny_pure h⟩)) hn))
    | exact wpAny_bind (wpAny_bind (m := Builtin.Tuple.tupleExact _) (wpAny_newObj_type (wpAny_pure ⟨_, rfl, wpAny_pure h⟩) hn))
/-! ## sorted of a tuple of ints -/
theorem collect_tup {l : Addr} {vs : List Value} {Q : List Value → Shared → Prop} (hl : IsTup s.heap l vs.toArray) (hz : vs.length ≤ sizeLine)
    (h : Q vs { s with heap := (s.heap.push (seqObj "list" #[] 0)).update s.heap.objs.size (Obj.mapSeq (· ++ vs.toArray)) }) : wpAny (model prog w) A (collect (.ref l)) Q E s := by
  obtain ⟨o, ho, hc, n, hd⟩ := id hl
  unfold collect
  refine wpAny_bind (wpAny_runValue (codeAny_builtin entry_proto_collect' ?_))
  show wpAny _ _ (do again (.builtin "list.__iadd__" ⟨[← newList [], .ref l], []⟩)) _ _ s
  refine wpAny_bind (wpAny_newList (wpAny_pure ⟨Code.quiet_builtin _ (by decide +kernel), codeAny_builtin entry_list_iadd' ?_⟩))
  show wpAny _ _ (Builtin.List.listExtendWith (.ref s.heap.objs.size) (.ref l) (.ref s.heap.objs.size)) _ _ { s with heap := s.heap.push (seqObj "list" #[] 0) }
  unfold Builtin.List.listExtendWith
  have ho' : (s.heap.push (seqObj "list" #[] 0)).get? l = some o := Heap.get?_push_of_some _ ho
  refine wpAny_bind (wpAny_typeOf (T := "tuple") ⟨o, ho', hc⟩ ?_)
  have ht : (Value.type "tuple" == Value.type "tuple") = true := by rfl
  rw [if_pos (by rw [ht]; simp)]
  refine wpAny_bind (listItems_at ho' hd (wpAny_bind (listItems_at (xs := #[]) (n := 0) (Heap.get?_push_size _ rfl) rfl ?_)))
  rw [if_neg (by simp)]
  refine wpAny_bind (listUpdate_at (xs := #[]) (n := 0) (Heap.get?_push_size _ rfl) rfl (wpAny_pure ?_) (Nat.zero_le _) (by show (#[] ++ vs.toArray).size ≤ sizeLine + 1; simp only [Array.size_append, List.size_toArray, List.length_nil]; omega))
  show wpAny (model prog w) A (load s.heap.objs.size >>= fun o => match o.data with | .seq xs _ => pure xs.toList | _ => unsupported "internal:collect") Q E { s with heap := (s.heap.push (seqObj "list" #[] 0)).update s.heap.objs.size (Obj.mapSeq (· ++ vs.toArray)) }
  refine wpAny_bind (wpAny_load (get?_update_seq (Heap.get?_push_size _ rfl) _) ?_)
  show wpAny _ _ (pure ((#[] : Array Value) ++ vs.toArray).toList) Q E _
  have e : ((#[] : Array Value) ++ vs.toArray).toList = vs := by simp
  rw [e]
  exact wpAny_pure h
theorem sorted_tup {l : Addr} {vs : List Value} {ltv : Value → Value → Bool} {Q : Value → Shared → Prop} (O : SrtO.Swo ltv) (hl : IsTup s.heap l vs.toArray) (hz : vs.length ≤ sizeLine)
    (hS : 2 ≤ vs.length → ∀ (h₁ : Heap) (a : Addr), SrtO.SortableO prog w A.in1.in1 { s with heap := h₁ } a vs ltv)
    (h : ∀ out : List Value, SrtO.Srtd ltv out → SrtO.Stb ltv out vs → Q (.ref (s.heap.objs.size + 1)) { s with heap := sortedAll s.heap vs out.toArray }) :
    wpAny (model prog w) A (call (.builtin "sorted") [.ref l]) Q E s := by
  refine Calls.call_function_entry kind_sorted plain_sorted entry_sorted (args_sorted1 _) ?_
  unfold Builtin.«sorted»
  refine wpAny_bind (m := checkCount "sorted" 1 1 _) (wpAny_pure (wpAny_bind (collect_tup hl hz (wpAny_bind (wpAny_newList ?_ hz)))))
  have hsz : ((s.heap.push (seqObj "list" #[] 0)).update s.heap.objs.size (Obj.mapSeq (· ++ vs.toArray))).objs.size = s.heap.objs.size + 1 := by rw [Heap.size_update, size_push']
  have hoL : (((s.heap.push (seqObj "list" #[] 0)).update s.heap.objs.size (Obj.mapSeq (· ++ vs.toArray))).push (seqObj "list" vs.toArray 0)).get? (s.heap.objs.size + 1) = some (seqObj "list" vs.toArray 0) := by rw [← hsz]; exact Heap.get?_push_size _ rfl
  show wpAny _ _ _ _ _ { s with heap := ((s.heap.push (seqObj "list" #[] 0)).update s.heap.objs.size (Obj.mapSeq (· ++ vs.toArray))).push (seqObj "list" vs.toArray 0) }
  rw [hsz]
  exact wpAny_bind (wpAny_holding (wpAny_call_entry slot_list_sort ⟨_, hoL, rfl⟩ entry_list_sort (SrtO.list_sort_ord O hoL hz (fun h2 => hS h2 _ _) fun out hs hb => ⟨_, rfl, wpAny_pure ⟨_, rfl, h out hs hb⟩⟩) (args_list_sort _)))
end
section
variable {X : Cx} {pos : Pos}
def rSortedIT (K : PySem.W.Frag) : List V → Hp → VK → Prop := fun vs H Q => ∃ (a : Addr) (ns : List Int), vs = [V.ref a] ∧ SqT K H a (ns.map V.int) ∧ ∀ (ms : List Int) (p : Addr), ms.Perm ns → ms.Pairwise (· ≤ ·) → H p = none → Q (.ref p) (upd H p (.lst (ms.map V.int)))
theorem cr_sortedIT : CallR X (.builtin "sorted") (rSortedIT X.K) := fun pins s σ H vs us Q I r h => by
  obtain ⟨a, ns, rfl, hs, q⟩ := h
  obtain ⟨its, rv, hl, hz⟩ := I.tuple hs
  rw [Vals.ref1 r]
  have hi := rv.ints
  refine sorted_tup SrtO.swo_int hl (by rw [← rv.length]; exact hz) (fun h2 h₁ a' => SrtO.ints_sortable hi h2) fun out h1 h2 => ?_
  obtain ⟨k1, k2, k3⟩ := SrtO.ints_out hi h1 h2
  obtain ⟨ep, he⟩ := PyProof.Rows.sortedAll_at s.heap its out.toArray
  have hn : ((out.map SrtO.iv).map V.int).length ≤ sizeLine := by
    rw [List.length_map] at hz
    rw [List.length_map, k2.length_eq]; exact hz
  exact ⟨.ref _, upd H (s.heap.objs.size + 1) (.lst ((out.map SrtO.iv).map V.int)), I.laid (t' := s.toks) (fun _ _ => PyProof.Rows.sortedAll_old) (Nat.le_succ _) ⟨hn, out, ep, vals_of_ints k1, he⟩, rfl, q _ _ k2 k3 (I.hok.fresh (Nat.le_succ _))⟩
end
/-! ## methods of tuples -/
section
variable {X : Cx} {T id : String} {name : Str} {r : V → List V → Hp → VK → Prop} {o e : Expr} {es : List Expr} {to : TE} {t : TA} {apos cpos : Pos}
/-- the tuple is known, without a dict of its own -/
def KnT (K : PySem.W.Frag) (x : V) (H : Hp) : Prop := ∃ a, x = .ref a ∧ ((∃ xs ob, H a = some (.frz ob (.tup xs)) ∧ Obj.dict ob = none) ∨ ∃ ob, K.lookup a = some ob ∧ ob.cls = .type "tuple" ∧ ob.dict = none)
theorem KnT.is {pins : List (Addr × Obj)} {σ : L2.St} {H : Hp} {s : Shared} {x : V} {v : Value} (I : Inv X pins σ H s) (rx : RelV x v) (h : KnT X.K x H) : s.TypeIs v "tuple" ∧ ∀ a, v = .ref a → ∃ ob, s.heap.get? a = some ob ∧ ob.dict = none := by
  obtain ⟨a, rfl, h⟩ := h
  cases rx
  rcases h with ⟨xs, ob, h1, h2⟩ | ⟨ob, h1, h2, h3⟩
  · obtain ⟨g, _, its, _, p⟩ := (show ObjOk X.prog X.w H s.heap a (.frz ob (.tup xs)) from I.hok a _ h1)
    exact ⟨p.typeIs, fun b e => by cases e; exact ⟨ob, g, h2⟩⟩
  · have g := I.kIn a ob h1
    exact ⟨⟨ob, g, h2⟩, fun b e => by cases e; exact ⟨ob, g, h3⟩⟩
def tBMT (K : PySem.W.Frag) (r : V → List V → Hp → VK → Prop) (to : TE) (t : TA) : TE := fun σ H Q => to σ H fun x H1 => KnT K x H1 ∧ t σ H1 fun xs H2 => r x xs H2 Q
theorem pe_bmT (pa : PlainAttrs "tuple") (slot : Slot "tuple" name id) (hty : typeOf (.builtin id) = pure (.type "method_descriptor")) (hm : MtR X id r) (ho : PE X o to) (ha : PA X (e :: es) t)
    (hbase : attributeBase o name X.env (eval o X.env) = eval o X.env)
    (hfew : ((backTo cpos (starEach (e :: es) X.env)).all (fun x => !x.1) && (backToKw cpos (keywordEach [] X.env)).all (fun x => x.1.isSome) && decide ((e :: es).length + ([] : List Keyword).length + (if ([] : List Keyword).isEmpty then 0 else 1) < 30)) = true)
    (hline : (apos.endLine == cpos.line) = true) (hs : starEach (e :: es) X.env = (false, eval e X.env) :: starEach es X.env) (hplain : (backTo cpos (starEach es X.env)).any (·.1) = false) : PE X (.Call (.Attribute o name apos) (e :: es) [] cpos) (tBMT X.K r to t) :=
  ⟨fun pins s σ H Q I h => wpAny_Call_method_late hbase hfew hline rfl (thn (ho.run pins s σ H _ I h) fun v s1 ⟨x, H1, I1, r1, ty, q1⟩ => by
    obtain ⟨h1, h2⟩ := ty.is I1 r1
    refine ⟨"tuple", id, pa, slot, hty, h1, h2, ?_⟩
    have hA := ha.run cpos pins s1 σ H1 _ I1 q1
    rw [hs] at hA ⊢
    exact Calls.callWith_builtin (by show (false || (backTo cpos (starEach es X.env)).any (·.1)) = false; rw [hplain] <;> rfl) (Calls.evalArgs_plain (thn hA fun us s2 ⟨vs, H2, I2, r2, q2⟩ => hm pins s2 σ H2 x vs v us Q I2 r1 r2 q2)))⟩
/-- t.index(x), x and the items ints, texts, bools, None -/
def rIndexT (K : PySem.W.Frag) : V → List V → Hp → VK → Prop := fun x vs H Q => ∃ a xs w j v, x = .ref a ∧ vs = [w] ∧ SqT K H a xs ∧ flatV w = true ∧ xs.all flatV = true ∧ xs[j]? = some v ∧ eqV v w = true ∧ (∀ m z, m < j → xs[m]? = some z → eqV z w = false) ∧ Q (.int (j : Nat)) H
theorem mt_tup_indexF : MtR X "tuple.index" (rIndexT X.K) := fun pins s σ H x xs v us Q I rx rs h => by
  obtain ⟨p, ys, w, j, y, rfl, rfl, hq, fw, fy, hy, he, hno, q⟩ := h
  cases rx
  obtain ⟨u, rfl, ru⟩ := vals1 rs
  obtain ⟨its, rv, pl, hz⟩ := I.tuple hq
  obtain ⟨⟨cls, dd, dt, sl⟩, ho, hc, n, hd⟩ := pl
  simp only at hc hd
  subst hc hd
  have hl : its.toArray.size = ys.length := by rw [List.size_toArray, ← rv.length]
  have hj : j < its.toArray.size := by rw [hl]; exact (List.getElem?_eq_some_iff.mp hy).1
  have at' : ∀ (m : Nat) (hm : m < its.toArray.size), ∃ z, ys[m]? = some z ∧ RelV z its.toArray[m] := fun m hm => by
    have hm' : m < ys.length := by rw [← hl]; exact hm
    obtain ⟨w, hw, rw'⟩ := rv.get (List.getElem?_eq_getElem hm')
    refine ⟨ys[m], List.getElem?_eq_getElem hm', ?_⟩
    have e := (List.getElem?_eq_some_iff.mp hw).2
    have e2 : its.toArray[m] = w := by rw [← e]; simp
    rw [e2]; exact rw'
  have fl : ∀ {m : Nat} {z : V}, ys[m]? = some z → flatV z = true := fun e => List.all_eq_true.mp fy _ (List.mem_of_getElem? e)
  refine call_meets PySem.F.slot_tuple_index ⟨_, ho, rfl⟩ PySem.F.entry_tuple_index (PySem.F.args_tuple_index_2 _ _) (TI.tuple_indexAt p its.toArray n dd sl u (eqU w) j hj ?_ ?_)
    ⟨ho, fun z hz => mem_eqAt ru fw rv fy z (by simpa using hz), ⟨.int (j : Nat), H, I.tok _, ⟨_, rfl⟩, q⟩⟩
  · obtain ⟨z, h1, h2⟩ := at' j hj
    rw [hy] at h1; cases h1
    rw [eqU_of h2 (fl hy)]; exact he
  · intro m hm hmj
    obtain ⟨z, h1, h2⟩ := at' m hm
    rw [eqU_of h2 (fl h1)]; exact hno m z hmj h1
end
end DL

namespace DL
open PySem PySem.Spec PyProof.Rows L2

/-! ## data -/
inductive D where
  | non | bl (b : Bool) | int (i : Int) | str (s : Str)
  | lst (xs : List D) | tup (xs : List D) | wtup (xs : List D) | mref (h : Nat)
  | dic (ks : List Key) (xs : List D)
inductive MO where
  | lst (xs : List D) | ins (cls : Str) (fs : List (Str × D)) | dic (ks : List Key) (xs : List D) | dit (ks : List (List Key)) (xs : List D)
abbrev Mu := List (Option MO)
structure Rho where
  hs : List (Option Addr)
  rs : List Addr
abbrev Sl := List (Option D)
structure Exn where
  cls : Str
  fld : Str
  arg : D
inductive R (α : Type) where
  | ok (a : α) | ex (x : Exn)
abbrev Cm (α : Type) := Mu → Option (R α × Mu)
def Cm.ok {α : Type} (a : α) : Cm α := fun μ => some (.ok a, μ)
def Cm.fail {α : Type} : Cm α := fun _ => none
def Cm.bind {α β : Type} (m : Cm α) (f : α → Cm β) : Cm β := fun μ => match m μ with
  | none => none
  | some (.ok a, μ1) => f a μ1
  | some (.ex x, μ1) => some (.ex x, μ1)
def Cm.lift {α : Type} (o : Option α) : Cm α := fun μ => match o with
  | some a => some (.ok a, μ)
  | none => none

/-! ## what stands for what -/
def NotHd (ρ : Rho) (b : Addr) : Prop := ∀ h : Nat, ρ.hs[h]? ≠ some (some b)
def NotLive (ρ : Rho) (b : Addr) : Prop := NotHd ρ b ∧ b ∉ ρ.rs
def NoTbl : HO → Prop
  | .tbl _ => False
  | _ => True
def KTup (K : PySem.W.Frag) (a : Addr) (xs : List V) : Prop :=
  ∃ (o : Obj) (its : Array Value) (n : Nat), K.lookup a = some o ∧ o.cls = .type "tuple" ∧ o.data = .seq its n ∧ its.size ≤ sizeLine ∧ Vals xs its.toList ∧ o.dict = none
def ImL (K : PySem.W.Frag) (H : Hp) (ρ : Rho) (a : Addr) (xs : List V) : Prop := Rd H a (.lst xs) ∧ NotLive ρ a
/-- a tuple that is known to its object, which has no dict of its own -/
def StT (H : Hp) (a : Addr) (xs : List V) : Prop := ∃ o : Obj, H a = some (.frz o (.tup xs)) ∧ o.dict = none
def ImT (K : PySem.W.Frag) (H : Hp) (ρ : Rho) (a : Addr) (xs : List V) : Prop := (StT H a xs ∧ NotLive ρ a) ∨ KTup K a xs
def ImW (H : Hp) (ρ : Rho) (a : Addr) (xs : List V) : Prop := Rd H a (.tup xs) ∧ NotLive ρ a
theorem StT.rd {H : Hp} {a : Addr} {xs : List V} (h : StT H a xs) : Rd H a (.tup xs) := let ⟨o, e, _⟩ := h; .inr ⟨o, e⟩
theorem ImL.seq {K : PySem.W.Frag} {H : Hp} {ρ : Rho} {a : Addr} {xs : List V} (h : ImL K H ρ a xs) : SqL K H a xs := .inl h.1
def KTup.sq {K : PySem.W.Frag} {H : Hp} {a : Addr} {xs : List V} (h : KTup K a xs) : SqT K H a xs := let ⟨o, its, n, h1, h2, h3, h4, h5, _⟩ := h; .inr ⟨o, its, n, h1, h2, h3, h4, h5⟩
theorem ImT.seq {K : PySem.W.Frag} {H : Hp} {ρ : Rho} {a : Addr} {xs : List V} (h : ImT K H ρ a xs) : SqT K H a xs := h.elim (fun z => .inl z.1.rd) (fun z => z.sq)
theorem ImW.seq {K : PySem.W.Frag} {H : Hp} {ρ : Rho} {a : Addr} {xs : List V} (h : ImW H ρ a xs) : SqT K H a xs := .inl h.1

mutual
inductive DRep (K : PySem.W.Frag) (H : Hp) (ρ : Rho) : V → D → Prop where
  | non : DRep K H ρ .non .non
  | bl (b : Bool) : DRep K H ρ (.bl b) (.bl b)
  | int (i : Int) : DRep K H ρ (.int i) (.int i)
  | str (s : Str) : DRep K H ρ (.str s) (.str s)
  | lst {a : Addr} {vs : List V} {ds : List D} : ImL K H ρ a vs → DReps K H ρ vs ds → DRep K H ρ (.ref a) (.lst ds)
  | tup {a : Addr} {vs : List V} {ds : List D} : ImT K H ρ a vs → DReps K H ρ vs ds → DRep K H ρ (.ref a) (.tup ds)
  | wtup {a : Addr} {vs : List V} {ds : List D} : ImW H ρ a vs → DReps K H ρ vs ds → DRep K H ρ (.ref a) (.wtup ds)
  | mref {a : Addr} {h : Nat} : h < ρ.hs.length → (∀ a', ρ.hs[h]? = some (some a') → a' = a) → DRep K H ρ (.ref a) (.mref h)
  | dic {a : Addr} {ks : List Key} {vs : List V} {ds : List D} : H a = some (.dK (ks.zip vs)) → NotLive ρ a → ks.length = vs.length → DReps K H ρ vs ds → DRep K H ρ (.ref a) (.dic ks ds)
inductive DReps (K : PySem.W.Frag) (H : Hp) (ρ : Rho) : List V → List D → Prop where
  | nil : DReps K H ρ [] []
  | cons {v : V} {vs : List V} {d : D} {ds : List D} : DRep K H ρ v d → DReps K H ρ vs ds → DReps K H ρ (v :: vs) (d :: ds)
end

/-- what a step may change: the live objects, the tables; what is new is new -/
structure Ext (ρ : Rho) (H : Hp) (ρ' : Rho) : Prop where
  len : ρ.hs.length ≤ ρ'.hs.length
  old : ∀ (h : Nat) (a : Addr), ρ'.hs[h]? = some (some a) → ρ.hs[h]? = some (some a) ∨ (ρ.hs.length ≤ h ∧ H a = none)
  res : ∀ a, a ∈ ρ'.rs → a ∈ ρ.rs ∨ H a = none
  sub : ∀ a, a ∈ ρ.rs → a ∈ ρ'.rs
structure Keep (ρ : Rho) (H H' : Hp) : Prop where
  keep : ∀ b o, H b = some o → NotHd ρ b → NoTbl o → H' b = some o
  dom : ∀ b o, H b = some o → ∃ o', H' b = some o'
theorem Ext.refl (ρ : Rho) (H : Hp) : Ext ρ H ρ := ⟨Nat.le_refl _, fun _ _ h => .inl h, fun _ h => .inl h, fun _ h => h⟩
theorem Keep.refl (ρ : Rho) (H : Hp) : Keep ρ H H := ⟨fun _ _ h _ _ => h, fun _ o h => ⟨o, h⟩⟩
theorem Keep.none {ρ : Rho} {H H' : Hp} (k : Keep ρ H H') {b : Addr} (h : H' b = none) : H b = none := by
  cases e : H b with
  | none => rfl
  | some o => obtain ⟨o', e'⟩ := k.dom b o e; rw [h] at e'; cases e'
theorem Ext.notHd {ρ ρ' : Rho} {H : Hp} (x : Ext ρ H ρ') {b : Addr} {o : HO} (h : NotHd ρ b) (hb : H b = some o) : NotHd ρ' b := fun i e => by
  rcases x.old i b e with q | ⟨_, q⟩
  · exact h i q
  · rw [hb] at q; cases q
theorem Ext.notLive {ρ ρ' : Rho} {H : Hp} (x : Ext ρ H ρ') {b : Addr} {o : HO} (h : NotLive ρ b) (hb : H b = some o) : NotLive ρ' b := ⟨x.notHd h.1 hb, fun e => by
  rcases x.res b e with q | q
  · exact h.2 q
  · rw [hb] at q; cases q⟩
theorem Ext.trans {ρ ρ1 ρ2 : Rho} {H H1 : Hp} (a : Ext ρ H ρ1) (k : Keep ρ H H1) (b : Ext ρ1 H1 ρ2) : Ext ρ H ρ2 :=
  ⟨Nat.le_trans a.len b.len, fun i c e => by
    rcases b.old i c e with q | ⟨q1, q2⟩
    · exact a.old i c q
    · exact .inr ⟨Nat.le_trans a.len q1, k.none q2⟩, fun c e => by
    rcases b.res c e with q | q
    · exact a.res c q
    · exact .inr (k.none q), fun c e => b.sub c (a.sub c e)⟩
theorem Keep.trans {ρ ρ1 : Rho} {H H1 H2 : Hp} (a : Keep ρ H H1) (x : Ext ρ H ρ1) (b : Keep ρ1 H1 H2) : Keep ρ H H2 :=
  ⟨fun c o e n t => b.keep c o (a.keep c o e n t) (x.notHd n e) t, fun c o e => let ⟨o', e'⟩ := a.dom c o e; b.dom c o' e'⟩

theorem Rd.keep {ρ : Rho} {H H' : Hp} (k : Keep ρ H H') {a : Addr} {u : HO} (r : Rd H a u) (n : NotLive ρ a) (t : NoTbl u) : Rd H' a u := by
  rcases r with r | ⟨o, r⟩
  · exact .inl (k.keep a u r n.1 t)
  · exact .inr ⟨o, k.keep a _ r n.1 trivial⟩
theorem StT.keep {ρ : Rho} {H H' : Hp} (k : Keep ρ H H') {a : Addr} {xs : List V} (h : StT H a xs) (n : NotLive ρ a) : StT H' a xs := let ⟨o, e, d⟩ := h; ⟨o, k.keep a _ e n.1 trivial, d⟩
theorem Rd.notLive {ρ ρ' : Rho} {H : Hp} (x : Ext ρ H ρ') {a : Addr} {u : HO} (r : Rd H a u) (n : NotLive ρ a) : NotLive ρ' a := by
  rcases r with r | ⟨o, r⟩
  · exact x.notLive n r
  · exact x.notLive n r
mutual
theorem DRep.step {K : PySem.W.Frag} {H H' : Hp} {ρ ρ' : Rho} (x : Ext ρ H ρ') (k : Keep ρ H H') : ∀ (d : D) (v : V), DRep K H ρ v d → DRep K H' ρ' v d
  | .non, _, r => by cases r; exact .non
  | .bl b, _, r => by cases r; exact .bl b
  | .int i, _, r => by cases r; exact .int i
  | .str s, _, r => by cases r; exact .str s
  | .lst ds, _, r => by
    cases r with
    | lst h rs =>
      refine .lst ⟨Rd.keep k h.1 h.2 trivial, Rd.notLive x h.1 h.2⟩ (DReps.step x k ds _ rs)
  | .tup ds, _, r => by
    cases r with
    | tup h rs =>
      refine .tup (h.elim (fun z => .inl ⟨StT.keep k z.1 z.2, Rd.notLive x z.1.rd z.2⟩) .inr) (DReps.step x k ds _ rs)
  | .wtup ds, _, r => by
    cases r with
    | wtup h rs =>
      refine .wtup ⟨Rd.keep k h.1 h.2 trivial, Rd.notLive x h.1 h.2⟩ (DReps.step x k ds _ rs)
  | .mref h, _, r => by
    cases r with
    | mref h1 h2 =>
      refine .mref (Nat.lt_of_lt_of_le h1 x.len) fun a' e => ?_
      rcases x.old _ _ e with q | ⟨q, _⟩
      · exact h2 a' q
      · exact absurd (Nat.lt_of_lt_of_le h1 q) (Nat.lt_irrefl _)
  | .dic ks ds, _, r => by
    cases r with
    | dic h n l rs => exact .dic (k.keep _ _ h n.1 trivial) (x.notLive n h) l (DReps.step x k ds _ rs)
theorem DReps.step {K : PySem.W.Frag} {H H' : Hp} {ρ ρ' : Rho} (x : Ext ρ H ρ') (k : Keep ρ H H') : ∀ (ds : List D) (vs : List V), DReps K H ρ vs ds → DReps K H' ρ' vs ds
  | [], _, r => by cases r; exact .nil
  | d :: ds, _, r => by
    cases r with
    | cons a b => exact .cons (DRep.step x k d _ a) (DReps.step x k ds _ b)
end
theorem DReps.length {K : PySem.W.Frag} {H : Hp} {ρ : Rho} : ∀ {vs : List V} {ds : List D}, DReps K H ρ vs ds → vs.length = ds.length
  | _, _, .nil => rfl
  | _, _, .cons _ r => by rw [List.length_cons, List.length_cons, DReps.length r]
theorem DReps.get {K : PySem.W.Frag} {H : Hp} {ρ : Rho} : ∀ {vs : List V} {ds : List D} {i : Nat} {d : D}, DReps K H ρ vs ds → ds[i]? = some d → ∃ v, vs[i]? = some v ∧ DRep K H ρ v d
  | _, _, _, _, .nil, e => by simp at e
  | _, _, 0, _, .cons a _, e => by simp at e; subst e; exact ⟨_, rfl, a⟩
  | _, _, i + 1, d, .cons _ r, e => by
    obtain ⟨v, h1, h2⟩ := DReps.get (i := i) (d := d) r (by simpa using e)
    exact ⟨v, by simpa using h1, h2⟩
theorem DReps.append {K : PySem.W.Frag} {H : Hp} {ρ : Rho} : ∀ {vs ws : List V} {ds es : List D}, DReps K H ρ vs ds → DReps K H ρ ws es → DReps K H ρ (vs ++ ws) (ds ++ es)
  | _, _, _, _, .nil, s => s
  | _, _, _, _, .cons a r, s => .cons a (DReps.append r s)
theorem DReps.take {K : PySem.W.Frag} {H : Hp} {ρ : Rho} : ∀ (n : Nat) {vs : List V} {ds : List D}, DReps K H ρ vs ds → DReps K H ρ (vs.take n) (ds.take n)
  | 0, _, _, _ => .nil
  | _ + 1, _, _, .nil => .nil
  | n + 1, _, _, .cons a r => .cons a (DReps.take n r)
theorem DReps.drop {K : PySem.W.Frag} {H : Hp} {ρ : Rho} : ∀ (n : Nat) {vs : List V} {ds : List D}, DReps K H ρ vs ds → DReps K H ρ (vs.drop n) (ds.drop n)
  | 0, _, _, r => r
  | _ + 1, _, _, .nil => .nil
  | n + 1, _, _, .cons _ r => DReps.drop n r
theorem DReps.set {K : PySem.W.Frag} {H : Hp} {ρ : Rho} {v : V} {d : D} (q : DRep K H ρ v d) : ∀ (n : Nat) {vs : List V} {ds : List D}, DReps K H ρ vs ds → DReps K H ρ (vs.set n v) (ds.set n d)
  | _, _, _, .nil => .nil
  | 0, _, _, .cons _ r => .cons q r
  | n + 1, _, _, .cons a r => .cons a (DReps.set q n r)

def MORep (K : PySem.W.Frag) (mg : Str → Option Value) (H : Hp) (ρ : Rho) (a : Addr) : MO → Prop
  | .lst ds => ∃ vs, H a = some (.lst vs) ∧ DReps K H ρ vs ds
  | .ins c fs => ∃ (C dx : Addr) (vs : List V), mg c = some (.ref C) ∧ H a = some (.ins C dx ((fs.map (·.1)).zip vs)) ∧ vs.length = fs.length ∧ DReps K H ρ vs (fs.map (·.2))
  | .dic ks ds => ∃ vs, H a = some (.dK (ks.zip vs)) ∧ ks.length = vs.length ∧ DReps K H ρ vs ds
  | .dit ks ds => ∃ vs, H a = some (.dT (ks.zip vs)) ∧ ks.length = vs.length ∧ DReps K H ρ vs ds
/-- the context's fixed things -/
structure Gx where
  K : PySem.W.Frag
  mg : Str → Option Value
  tb : Addr → Prop
structure MuRep (G : Gx) (H : Hp) (ρ : Rho) (μ : Mu) : Prop where
  len : ρ.hs.length = μ.length
  at_ : ∀ (h : Nat) (mo : MO), μ[h]? = some (some mo) → ∃ a, ρ.hs[h]? = some (some a) ∧ MORep G.K G.mg H ρ a mo
  dead : ∀ (h : Nat) (a : Addr), ρ.hs[h]? = some (some a) → ∃ mo, μ[h]? = some (some mo)
  inj : ∀ (h h' : Nat) (a : Addr), ρ.hs[h]? = some (some a) → ρ.hs[h']? = some (some a) → h = h'
  res : ∀ a, a ∈ ρ.rs → (∃ o, H a = some o) ∧ NotHd ρ a
  tb : ∀ P, G.tb P → GxR.TabG H P
structure Step (G : Gx) (ρ : Rho) (H : Hp) (ρ' : Rho) (H' : Hp) (μ' : Mu) : Prop where
  ext : Ext ρ H ρ'
  keep : Keep ρ H H'
  mu : MuRep G H' ρ' μ'
theorem Step.refl {G : Gx} {ρ : Rho} {H : Hp} {μ : Mu} (m : MuRep G H ρ μ) : Step G ρ H ρ H μ := ⟨.refl _ _, .refl _ _, m⟩
theorem Step.trans {G : Gx} {ρ ρ1 ρ2 : Rho} {H H1 H2 : Hp} {μ1 μ2 : Mu} (a : Step G ρ H ρ1 H1 μ1) (b : Step G ρ1 H1 ρ2 H2 μ2) : Step G ρ H ρ2 H2 μ2 :=
  ⟨a.ext.trans a.keep b.ext, a.keep.trans a.ext b.keep, b.mu⟩
structure StRep (K : PySem.W.Frag) (H : Hp) (ρ : Rho) (σ : L2.St) (sl : Sl) : Prop where
  len : σ.length = sl.length
  at_ : ∀ (i : Nat) (d : D), sl[i]? = some (some d) → ∃ v, σ[i]? = some (some v) ∧ DRep K H ρ v d
theorem StRep.step {K : PySem.W.Frag} {H H' : Hp} {ρ ρ' : Rho} {σ : L2.St} {sl : Sl} (x : Ext ρ H ρ') (k : Keep ρ H H') (r : StRep K H ρ σ sl) : StRep K H' ρ' σ sl :=
  ⟨r.len, fun i d e => let ⟨v, h1, h2⟩ := r.at_ i d e; ⟨v, h1, DRep.step x k d v h2⟩⟩
theorem StRep.set {K : PySem.W.Frag} {H : Hp} {ρ : Rho} {σ : L2.St} {sl : Sl} (r : StRep K H ρ σ sl) (i : Nat) {v : V} {d : D} (q : DRep K H ρ v d) : StRep K H ρ (σ.set i (some v)) (sl.set i (some d)) := by
  refine ⟨by rw [List.length_set, List.length_set]; exact r.len, fun j e h => ?_⟩
  by_cases hj : i = j
  · subst hj
    have hl : i < sl.length := by
      have := (List.getElem?_eq_some_iff.mp h).1
      simpa using this
    rw [List.getElem?_set_self hl] at h
    cases h
    exact ⟨v, List.getElem?_set_self (by rw [r.len]; exact hl), q⟩
  · rw [List.getElem?_set_ne hj] at h
    obtain ⟨w, h1, h2⟩ := r.at_ j e h
    exact ⟨w, by rw [List.getElem?_set_ne hj]; exact h1, h2⟩

/-- an exception's own dict -/
structure ExRep (G : Gx) (H : Hp) (ρ : Rho) (cls : Value) (dd : Option Addr) (x : Exn) : Prop where
  ex : ∃ (C d : Addr) (v : V), G.mg x.cls = some (.ref C) ∧ cls = .ref C ∧ dd = some d ∧ H d = some (.xd [(x.fld, v)]) ∧ DRep G.K H ρ v x.arg

/-- relations of results -/
abbrev Rel (α β : Type) := Hp → Rho → α → β → Prop
def rV (K : PySem.W.Frag) : Rel V D := fun H ρ v d => DRep K H ρ v d
def rVs (K : PySem.W.Frag) : Rel (List V) (List D) := fun H ρ v d => DReps K H ρ v d
def rB : Rel Bool Bool := fun _ _ a b => a = b
def EndE (G : Gx) {α β : Type} (Rp : Rel α β) (W : Value → Option Addr → Hp → Prop) (ρ : Rho) (H : Hp) (μ' : Mu) (Q : α → Hp → Prop) : R β → Prop
  | .ok d => ∀ v H' ρ', Step G ρ H ρ' H' μ' → Rp H' ρ' v d → Q v H'
  | .ex x => ∀ cls dd H' ρ', Step G ρ H ρ' H' μ' → ExRep G H' ρ' cls dd x → W cls dd H'
/-- the computation c, from (H, ρ), ends with Q or, by an exception, with W -/
def Cfg (G : Gx) {α β : Type} (Rp : Rel α β) (W : Value → Option Addr → Hp → Prop) (ρ : Rho) (H : Hp) (c : Cm β) (Q : α → Hp → Prop) : Prop :=
  ∃ μ r μ', MuRep G H ρ μ ∧ c μ = some (r, μ') ∧ EndE G Rp W ρ H μ' Q r
theorem Cfg.bind {G : Gx} {α β γ δ : Type} {Rp : Rel α β} {Rq : Rel γ δ} {W : Value → Option Addr → Hp → Prop} {ρ : Rho} {H : Hp} {m : Cm δ} {g : δ → Cm β} {Q : α → Hp → Prop}
    (h : Cfg G Rp W ρ H (m.bind g) Q) : Cfg G Rq W ρ H m fun v H1 => ∃ ρ1 d, Rq H1 ρ1 v d ∧ Ext ρ H ρ1 ∧ Keep ρ H H1 ∧ Cfg G Rp W ρ1 H1 (g d) Q := by
  obtain ⟨μ, r, μ', hm, hc, he⟩ := h
  unfold Cm.bind at hc
  cases e : m μ with
  | none => rw [e] at hc; cases hc
  | some p =>
    obtain ⟨q, μ1⟩ := p
    rw [e] at hc
    cases q with
    | ok d =>
      refine ⟨μ, .ok d, μ1, hm, e, fun v H1 ρ1 st rr => ⟨ρ1, d, rr, st.ext, st.keep, μ1, r, μ', st.mu, hc, ?_⟩⟩
      cases r with
      | ok d' => exact fun v' H' ρ' st' r' => he v' H' ρ' (st.trans st') r'
      | ex x => exact fun cls dd H' ρ' st' r' => he cls dd H' ρ' (st.trans st') r'
    | ex x =>
      simp only [Option.some.injEq, Prod.mk.injEq] at hc
      obtain ⟨rfl, rfl⟩ := hc
      exact ⟨μ, .ex x, μ1, hm, e, he⟩
/-- an answer -/
theorem Cfg.ok {G : Gx} {α β : Type} {Rp : Rel α β} {W : Value → Option Addr → Hp → Prop} {ρ : Rho} {H : Hp} {d : β} {Q : α → Hp → Prop} (h : Cfg G Rp W ρ H (Cm.ok d) Q) (v : α) (r : Rp H ρ v d) : Q v H := by
  obtain ⟨μ, r', μ', hm, hc, he⟩ := h
  unfold Cm.ok at hc
  simp only [Option.some.injEq, Prod.mk.injEq] at hc
  obtain ⟨rfl, rfl⟩ := hc
  exact he v H ρ (.refl hm) r
theorem Cfg.lift {G : Gx} {α β : Type} {Rp : Rel α β} {W : Value → Option Addr → Hp → Prop} {ρ : Rho} {H : Hp} {o : Option β} {Q : α → Hp → Prop} (h : Cfg G Rp W ρ H (Cm.lift o) Q) : ∃ d, o = some d ∧ Cfg G Rp W ρ H (Cm.ok d) Q := by
  obtain ⟨μ, r', μ', hm, hc, he⟩ := h
  unfold Cm.lift at hc
  cases o with
  | none => cases hc
  | some d => exact ⟨d, rfl, μ, r', μ', hm, hc, he⟩
theorem Cfg.imp {G : Gx} {α β : Type} {Rp : Rel α β} {W : Value → Option Addr → Hp → Prop} {ρ : Rho} {H : Hp} {c : Cm β} {Q Q' : α → Hp → Prop} (h : Cfg G Rp W ρ H c Q) (i : ∀ v H', Q v H' → Q' v H') : Cfg G Rp W ρ H c Q' := by
  obtain ⟨μ, r, μ', hm, hc, he⟩ := h
  refine ⟨μ, r, μ', hm, hc, ?_⟩
  cases r with
  | ok d => exact fun v H' ρ' st r' => i _ _ (he v H' ρ' st r')
  | ex x => exact he

/-! ## expressions -/
theorem _root_.L2.PE.imp {X : Cx} {e : Expr} {t t' : TE} (h : PE X e t) (i : ∀ σ H Q, t' σ H Q → t σ H Q) : PE X e t' := ⟨fun p s σ H Q I q => h.run p s σ H Q I (i σ H Q q)⟩
theorem _root_.L2.PT.imp {X : Cx} {e : Expr} {t t' : TT} (h : PT X e t) (i : ∀ σ H Q, t' σ H Q → t σ H Q) : PT X e t' := ⟨fun p s σ H Q I q => h.run p s σ H Q I (i σ H Q q)⟩
theorem _root_.L2.PW.imp {X : Cx} {e : Expr} {t t' : TT} (h : PW X e t) (i : ∀ σ H Q, t' σ H Q → t σ H Q) : PW X e t' := ⟨fun w p s σ H Q I q => h.run w p s σ H Q I (i σ H Q q)⟩
theorem _root_.L2.PA.imp {X : Cx} {e : List Expr} {t t' : TA} (h : PA X e t) (i : ∀ σ H Q, t' σ H Q → t σ H Q) : PA X e t' := ⟨fun p pi s σ H Q I q => h.run p pi s σ H Q I (i σ H Q q)⟩
theorem _root_.L2.PS.imp {X : Cx} {e : Stmt} {t t' : TS} (h : PS X e t) (i : ∀ D σ H, t' D σ H → t D σ H) : PS X e t' := ⟨fun p s σ H D I q => h.run p s σ H D I (i D σ H q)⟩
theorem _root_.L2.PSs.imp {X : Cx} {e : List Stmt} {t t' : TS} (h : PSs X e t) (i : ∀ D σ H, t' D σ H → t D σ H) : PSs X e t' := ⟨fun p s σ H D I q => h.run p s σ H D I (i D σ H q)⟩
/-- the fixed things of a context -/
abbrev gx (X : Cx) (tb : Addr → Prop) : Gx := ⟨X.K, X.mg, tb⟩
/-- a reading by data -/
def rd (G : Gx) {α β : Type} (Rp : Rel α β) (W : WX) (f : Sl → Cm β) (σ : L2.St) (H : Hp) (Q : α → Hp → Prop) : Prop :=
  ∃ sl ρ, StRep G.K H ρ σ sl ∧ Cfg G Rp (fun c d H' => W c d σ H') ρ H (f sl) Q
abbrev DE (X : Cx) (tb : Addr → Prop) (W : WX) (e : Expr) (f : Sl → Cm D) : Prop := PE X e (rd (gx X tb) (rV X.K) W f)
abbrev DT (X : Cx) (tb : Addr → Prop) (W : WX) (e : Expr) (f : Sl → Cm Bool) : Prop := PT X e (rd (gx X tb) rB W f)
abbrev DW (X : Cx) (tb : Addr → Prop) (W : WX) (e : Expr) (f : Sl → Cm Bool) : Prop := PW X e (rd (gx X tb) rB W f)
abbrev DA (X : Cx) (tb : Addr → Prop) (W : WX) (es : List Expr) (f : Sl → Cm (List D)) : Prop := PA X es (rd (gx X tb) (rVs X.K) W f)
/-- two in a row -/
def seq2 {β γ : Type} (f : Sl → Cm γ) (g : γ → Sl → Cm β) : Sl → Cm β := fun sl => (f sl).bind fun d => g d sl
theorem rd.bind {G : Gx} {α β γ δ : Type} {Rp : Rel α β} {Rq : Rel γ δ} {W : WX} {f : Sl → Cm δ} {g : δ → Sl → Cm β} {σ : L2.St} {H : Hp} {Q : α → Hp → Prop} (h : rd G Rp W (seq2 f g) σ H Q) :
    rd G Rq W f σ H fun v H1 => ∃ sl ρ1 d, StRep G.K H1 ρ1 σ sl ∧ Rq H1 ρ1 v d ∧ Cfg G Rp (fun c d H' => W c d σ H') ρ1 H1 (g d sl) Q := by
  obtain ⟨sl, ρ, hs, hc⟩ := h
  exact ⟨sl, ρ, hs, (Cfg.bind (Rq := Rq) hc).imp fun v H' ⟨ρ1, d, r, x, k, c⟩ => ⟨sl, ρ1, d, hs.step x k, r, c⟩⟩
end DL

namespace DL
open PySem PySem.Spec PyProof.Rows L2
/-! ## statements -/
inductive SR where
  | nx (sl : Sl) | bk (sl : Sl) | ct (sl : Sl) | rt (d : D) | ex (x : Exn) (sl : Sl)
abbrev CS := Mu → Option (SR × Mu)
def EndS (G : Gx) (W : WX) (ρ : Rho) (H : Hp) (μ' : Mu) (De : Ends) : SR → Prop
  | .nx sl' => ∀ σ' H' ρ', Step G ρ H ρ' H' μ' → StRep G.K H' ρ' σ' sl' → De.nx σ' H'
  | .bk sl' => ∀ σ' H' ρ', Step G ρ H ρ' H' μ' → StRep G.K H' ρ' σ' sl' → De.bk σ' H'
  | .ct sl' => ∀ σ' H' ρ', Step G ρ H ρ' H' μ' → StRep G.K H' ρ' σ' sl' → De.ct σ' H'
  | .rt d => ∀ v H' ρ', Step G ρ H ρ' H' μ' → DRep G.K H' ρ' v d → De.rt v H'
  | .ex x sl' => ∀ cls dd σ' H' ρ', Step G ρ H ρ' H' μ' → StRep G.K H' ρ' σ' sl' → ExRep G H' ρ' cls dd x → W cls dd σ' H'
theorem EndS.step {G : Gx} {W : WX} {ρ ρ1 : Rho} {H H1 : Hp} {μ1 μ' : Mu} {De : Ends} (s : Step G ρ H ρ1 H1 μ1) : ∀ {r : SR}, EndS G W ρ H μ' De r → EndS G W ρ1 H1 μ' De r
  | .nx _, e => fun σ' H' ρ' st r => e σ' H' ρ' (s.trans st) r
  | .bk _, e => fun σ' H' ρ' st r => e σ' H' ρ' (s.trans st) r
  | .ct _, e => fun σ' H' ρ' st r => e σ' H' ρ' (s.trans st) r
  | .rt _, e => fun v H' ρ' st r => e v H' ρ' (s.trans st) r
  | .ex _ _, e => fun c d σ' H' ρ' st r x => e c d σ' H' ρ' (s.trans st) r x
def CfgS (G : Gx) (W : WX) (De : Ends) (ρ : Rho) (H : Hp) (c : CS) : Prop := ∃ μ r μ', MuRep G H ρ μ ∧ c μ = some (r, μ') ∧ EndS G W ρ H μ' De r
def rdS (G : Gx) (W : WX) (f : Sl → CS) : TS := fun De σ H => ∃ sl ρ, StRep G.K H ρ σ sl ∧ CfgS G W De ρ H (f sl)
abbrev DS (X : Cx) (tb : Addr → Prop) (W : WX) (st : Stmt) (f : Sl → CS) : Prop := PS X st (rdS (gx X tb) W f)
abbrev DSs (X : Cx) (tb : Addr → Prop) (W : WX) (st : List Stmt) (f : Sl → CS) : Prop := PSs X st (rdS (gx X tb) W f)
def sBind {α : Type} (c : Cm α) (sl : Sl) (k : α → CS) : CS := fun μ => match c μ with
  | none => none
  | some (.ok a, μ1) => k a μ1
  | some (.ex x, μ1) => some (.ex x sl, μ1)
/-- an expression's value, then the rest -/
def sExp {α : Type} (f : Sl → Cm α) (k : α → Sl → CS) : Sl → CS := fun sl => sBind (f sl) sl fun d => k d sl
def sNx : Sl → CS := fun sl μ => some (.nx sl, μ)
def sRt (d : D) : CS := fun μ => some (.rt d, μ)
theorem rdS.exp {G : Gx} {γ δ : Type} {Rq : Rel γ δ} {W : WX} {f : Sl → Cm δ} {k : δ → Sl → CS} {De : Ends} {σ : L2.St} {H : Hp} (h : rdS G W (sExp f k) De σ H) :
    rd G Rq W f σ H fun v H1 => ∃ sl ρ1 d, StRep G.K H1 ρ1 σ sl ∧ Rq H1 ρ1 v d ∧ CfgS G W De ρ1 H1 (k d sl) := by
  obtain ⟨sl, ρ, hs, μ, r, μ', hm, hc, he⟩ := h
  refine ⟨sl, ρ, hs, ?_⟩
  unfold sExp sBind at hc
  cases e : f sl μ with
  | none => rw [e] at hc; cases hc
  | some p =>
    obtain ⟨q, μ1⟩ := p
    rw [e] at hc
    cases q with
    | ok d => exact ⟨μ, .ok d, μ1, hm, e, fun v H1 ρ1 st rr => ⟨sl, ρ1, d, hs.step st.ext st.keep, rr, μ1, r, μ', st.mu, hc, he.step st⟩⟩
    | ex x =>
      simp only [Option.some.injEq, Prod.mk.injEq] at hc
      obtain ⟨rfl, rfl⟩ := hc
      exact ⟨μ, .ex x, μ1, hm, e, fun cls dd H' ρ' st r' => he cls dd σ H' ρ' st (hs.step st.ext st.keep) r'⟩
theorem CfgS.nx {G : Gx} {W : WX} {De : Ends} {ρ : Rho} {H : Hp} {sl : Sl} (h : CfgS G W De ρ H (sNx sl)) {σ : L2.St} (r : StRep G.K H ρ σ sl) : De.nx σ H := by
  obtain ⟨μ, r', μ', hm, hc, he⟩ := h
  unfold sNx at hc
  simp only [Option.some.injEq, Prod.mk.injEq] at hc
  obtain ⟨rfl, rfl⟩ := hc
  exact he σ H ρ (.refl hm) r
theorem CfgS.rt {G : Gx} {W : WX} {De : Ends} {ρ : Rho} {H : Hp} {d : D} (h : CfgS G W De ρ H (sRt d)) {v : V} (r : DRep G.K H ρ v d) : De.rt v H := by
  obtain ⟨μ, r', μ', hm, hc, he⟩ := h
  unfold sRt at hc
  simp only [Option.some.injEq, Prod.mk.injEq] at hc
  obtain ⟨rfl, rfl⟩ := hc
  exact he v H ρ (.refl hm) r
/-- one after the other -/
def sSeq (f g : Sl → CS) : Sl → CS := fun sl μ => match f sl μ with
  | none => none
  | some (.nx sl1, μ1) => g sl1 μ1
  | some (r, μ1) => some (r, μ1)
theorem rdS.seq {G : Gx} {W : WX} {f g : Sl → CS} {De : Ends} {σ : L2.St} {H : Hp} (h : rdS G W (sSeq f g) De σ H) : rdS G W f { De with nx := rdS G W g De } σ H := by
  obtain ⟨sl, ρ, hs, μ, r, μ', hm, hc, he⟩ := h
  refine ⟨sl, ρ, hs, ?_⟩
  unfold sSeq at hc
  cases e : f sl μ with
  | none => rw [e] at hc; cases hc
  | some p =>
    obtain ⟨q, μ1⟩ := p
    rw [e] at hc
    cases q with
    | nx sl1 => exact ⟨μ, .nx sl1, μ1, hm, e, fun σ' H' ρ' st rr => ⟨sl1, ρ', rr, μ1, r, μ', st.mu, hc, he.step st⟩⟩
    | bk sl1 =>
      simp only [Option.some.injEq, Prod.mk.injEq] at hc
      obtain ⟨rfl, rfl⟩ := hc
      exact ⟨μ, _, μ1, hm, e, he⟩
    | ct sl1 =>
      simp only [Option.some.injEq, Prod.mk.injEq] at hc
      obtain ⟨rfl, rfl⟩ := hc
      exact ⟨μ, _, μ1, hm, e, he⟩
    | rt d =>
      simp only [Option.some.injEq, Prod.mk.injEq] at hc
      obtain ⟨rfl, rfl⟩ := hc
      exact ⟨μ, _, μ1, hm, e, he⟩
    | ex x sl1 =>
      simp only [Option.some.injEq, Prod.mk.injEq] at hc
      obtain ⟨rfl, rfl⟩ := hc
      exact ⟨μ, _, μ1, hm, e, he⟩
theorem CfgS.of {G : Gx} {W : WX} {De : Ends} {ρ : Rho} {H : Hp} {f : Sl → CS} {sl : Sl} {σ : L2.St} (h : CfgS G W De ρ H (f sl)) (r : StRep G.K H ρ σ sl) : rdS G W f De σ H := ⟨sl, ρ, r, h⟩
section
variable {X : Cx} {tb : Addr → Prop} {W : WX} {pos : Pos}
theorem dss_nil : DSs X tb W [] sNx := (pss_nil).imp fun De σ H ⟨sl, ρ, hs, hc⟩ => hc.nx hs
theorem dss_cons {st : Stmt} {rest : List Stmt} {f g : Sl → CS} (h1 : DS X tb W st f) (h2 : DSs X tb W rest g) : DSs X tb W (st :: rest) (sSeq f g) := (pss_cons h1 h2).imp fun De σ H h => h.seq
theorem dss_one {st : Stmt} {f : Sl → CS} (h1 : DS X tb W st f) : DSs X tb W [st] f := pss_one h1
/-- x = e -/
def sSet (i : Nat) (f : Sl → Cm D) : Sl → CS := sExp f fun d sl => sNx (sl.set i (some d))
theorem ds_set {i : Nat} {x : Str} {e : Expr} {f : Sl → Cm D} {pos' : Pos} (hN : X.N.Nodup) (hi : X.N[i]? = some x) (hx : Loc X.env.scope x) (he : DE X tb W e f) (hs : swapsWith e (some (.Name x pos')) pos.line X.env = pure false := by rfl)
    (hf : X.fn x = true ∨ X.env.scope.names.lookup x = some .local := by first | exact .inl rfl | exact .inr rfl | assumption) : DS X tb W (.Assign [.Name x pos'] e pos) (sSet i f) :=
  (ps_set hN hi hx he hs hf).imp fun De σ H h => by
    obtain ⟨sl0, ρ0, h1, h2⟩ := rdS.exp (Rq := rV X.K) h
    exact ⟨sl0, ρ0, h1, h2.imp fun v H1 ⟨sl, ρ1, d, hs, r, c⟩ => c.nx (hs.set i r)⟩
/-- e as a statement -/
def sDrop (f : Sl → Cm D) : Sl → CS := sExp f fun _ sl => sNx sl
theorem ds_expr {e : Expr} {f : Sl → Cm D} (he : DE X tb W e f) (hs : swapsWith e none pos.line X.env = pure false := by rfl) : DS X tb W (.Expr e pos) (sDrop f) :=
  (ps_expr he hs).imp fun De σ H h => by
    obtain ⟨sl0, ρ0, h1, h2⟩ := rdS.exp (Rq := rV X.K) h
    exact ⟨sl0, ρ0, h1, h2.imp fun v H1 ⟨sl, ρ1, d, hs, r, c⟩ => c.nx hs⟩
def sRet (f : Sl → Cm D) : Sl → CS := sExp f fun d _ => sRt d
theorem ds_ret {e : Expr} {f : Sl → Cm D} (he : DE X tb W e f) : DS X tb W (.Return (some e) pos) (sRet f) :=
  (ps_ret he).imp fun De σ H h => by
    obtain ⟨sl0, ρ0, h1, h2⟩ := rdS.exp (Rq := rV X.K) h
    exact ⟨sl0, ρ0, h1, h2.imp fun v H1 ⟨sl, ρ1, d, hs, r, c⟩ => c.rt r⟩
def sRetN : Sl → CS := fun _ => sRt .non
theorem ds_retN : DS X tb W (.Return none pos) sRetN := ps_retN.imp fun De σ H ⟨sl, ρ, hs, hc⟩ => hc.rt .non
theorem ds_pass : DS X tb W (.Pass pos) sNx := ps_pass.imp fun De σ H ⟨sl, ρ, hs, hc⟩ => hc.nx hs
def sBrk : Sl → CS := fun sl μ => some (.bk sl, μ)
def sCnt : Sl → CS := fun sl μ => some (.ct sl, μ)
theorem ds_break : DS X tb W (.Break pos) sBrk := ps_break.imp fun De σ H ⟨sl, ρ, hs, μ, r, μ', hm, hc, he⟩ => by
  unfold sBrk at hc
  simp only [Option.some.injEq, Prod.mk.injEq] at hc
  obtain ⟨rfl, rfl⟩ := hc
  exact he σ H ρ (.refl hm) hs
theorem ds_continue : DS X tb W (.Continue pos) sCnt := ps_continue.imp fun De σ H ⟨sl, ρ, hs, μ, r, μ', hm, hc, he⟩ => by
  unfold sCnt at hc
  simp only [Option.some.injEq, Prod.mk.injEq] at hc
  obtain ⟨rfl, rfl⟩ := hc
  exact he σ H ρ (.refl hm) hs
/-- if -/
def sIf (c : Sl → Cm Bool) (f g : Sl → CS) : Sl → CS := sExp c fun b sl => if b = true then f sl else g sl
theorem ds_if {c : Expr} {a b : List Stmt} {fc : Sl → Cm Bool} {f g : Sl → CS} (hc : DT X tb W c fc) (ha : DSs X tb W a f) (hb : DSs X tb W b g) : DS X tb W (.If c a b pos) (sIf fc f g) :=
  (ps_if hc ha hb).imp fun De σ H h => by
    obtain ⟨sl0, ρ0, h1, h2⟩ := rdS.exp (Rq := rB) h
    refine ⟨sl0, ρ0, h1, h2.imp fun v H1 ⟨sl, ρ1, d, hs, r, c⟩ => ?_⟩
    have e : v = d := r
    subst e
    by_cases hv : v = true
    · rw [if_pos hv]; rw [if_pos hv] at c; exact c.of hs
    · rw [if_neg hv]; rw [if_neg hv] at c; exact c.of hs
/-! ### targets -/
/-- the slots but those at ts are as they were -/
def Off (ts : List Nat) (σ σ' : L2.St) : Prop := σ'.length = σ.length ∧ ∀ i : Nat, i ∉ ts → σ'[i]? = σ[i]?
theorem Off.trans {ts us : List Nat} {σ σ1 σ2 : L2.St} (a : Off ts σ σ1) (b : Off us σ1 σ2) : Off (ts ++ us) σ σ2 :=
  ⟨b.1.trans a.1, fun i h => (b.2 i fun z => h (List.mem_append_right _ z)).trans (a.2 i fun z => h (List.mem_append_left _ z))⟩
structure Tgt where
  go : D → Sl → Option Sl
  ts : List Nat
structure Tgts where
  go : List D → Sl → Option Sl
  ts : List Nat
def rdG (G : Gx) (g : Tgt) : TG := fun v σ H Q => ∃ sl ρ d sl', StRep G.K H ρ σ sl ∧ DRep G.K H ρ v d ∧ g.go d sl = some sl' ∧ ∀ σ', StRep G.K H ρ σ' sl' → Off g.ts σ σ' → Q σ' H
def rdGs (G : Gx) (g : Tgts) : TGs := fun vs σ H Q => ∃ sl ρ ds sl', StRep G.K H ρ σ sl ∧ DReps G.K H ρ vs ds ∧ g.go ds sl = some sl' ∧ ∀ σ', StRep G.K H ρ σ' sl' → Off g.ts σ σ' → Q σ' H
abbrev DG (X : Cx) (tb : Addr → Prop) (tg : Expr) (g : Tgt) : Prop := PG X tg (rdG (gx X tb) g)
abbrev DGs (X : Cx) (tb : Addr → Prop) (tg : List Expr) (g : Tgts) : Prop := PGs X tg (rdGs (gx X tb) g)
theorem _root_.L2.PG.imp {X : Cx} {e : Expr} {t t' : TG} (h : PG X e t) (i : ∀ v σ H Q, t' v σ H Q → t v σ H Q) : PG X e t' := ⟨fun p s σ H v u Q I r q => h.run p s σ H v u Q I r (i v σ H Q q)⟩
theorem _root_.L2.PGs.imp {X : Cx} {e : List Expr} {t t' : TGs} (h : PGs X e t) (i : ∀ v σ H Q, t' v σ H Q → t v σ H Q) : PGs X e t' := ⟨fun p s σ H v u Q I r q => h.run p s σ H v u Q I r (i v σ H Q q)⟩
def dgName (i : Nat) : Tgt := ⟨fun d sl => some (sl.set i (some d)), [i]⟩
theorem dg_name {i : Nat} {x : Str} (hN : X.N.Nodup) (hi : X.N[i]? = some x) (hx : Loc X.env.scope x) (hf : X.fn x = true ∨ X.env.scope.names.lookup x = some .local := by first | exact .inl rfl | exact .inr rfl | assumption) : DG X tb (.Name x pos) (dgName i) :=
  (pg_name hN hi hx hf).imp fun v σ H Q ⟨sl, ρ, d, sl', hs, r, e, k⟩ => by
    have e : some (sl.set i (some d)) = some sl' := e
    simp only [Option.some.injEq] at e
    subst e
    exact k _ (hs.set i r) ⟨List.length_set, fun j hj => List.getElem?_set_ne (fun z => hj (List.mem_singleton.mpr z.symm))⟩
def dgNil : Tgts := ⟨fun ds sl => match ds with | [] => some sl | _ => none, []⟩
def dgCons (g : Tgt) (gs : Tgts) : Tgts := ⟨fun ds sl => match ds with | d :: ds => (g.go d sl).bind fun sl1 => gs.go ds sl1 | [] => none, g.ts ++ gs.ts⟩
theorem dgs_nil : DGs X tb [] dgNil := pgs_nil.imp fun vs σ H Q ⟨sl, ρ, ds, sl', hs, r, e, k⟩ => by
  cases r with
  | nil =>
    have e : some sl = some sl' := e
    cases e
    exact ⟨rfl, k _ hs ⟨rfl, fun _ _ => rfl⟩⟩
  | cons a b => cases e
theorem dgs_cons {e : Expr} {es : List Expr} {g : Tgt} {gs : Tgts} (h1 : DG X tb e g) (h2 : DGs X tb es gs)
    (hs : (assignEach (e :: es) X.env).map (·.2) = assign e X.env :: (assignEach es X.env).map (·.2) := by rfl) : DGs X tb (e :: es) (dgCons g gs) :=
  (pgs_cons h1 h2 hs).imp fun vs σ H Q ⟨sl, ρ, ds, sl', hs, r, e, k⟩ => by
    cases r with
    | nil => cases e
    | @cons v vs d ds a b =>
      have e : (g.go d sl).bind (fun sl1 => gs.go ds sl1) = some sl' := e
      cases e1 : g.go d sl with
      | none => rw [e1] at e; cases e
      | some sl1 =>
        rw [e1] at e
        exact ⟨v, vs, rfl, sl, ρ, d, sl1, hs, a, e1, fun σ' h' o' => ⟨sl1, ρ, ds, sl', h', b, e, fun σ2 h2 o2 => k σ2 h2 (o'.trans o2)⟩⟩
def dgTup (gs : Tgts) (n : Nat) : Tgt := ⟨fun d sl => match d with | .tup ds => if ds.length = n then gs.go ds sl else none | .wtup ds => if ds.length = n then gs.go ds sl else none | _ => none, gs.ts⟩
theorem dg_tup {es : List Expr} {k : Nat} {gs : Tgts} {n : Nat} (hc : X.calm = true) (h : DGs X tb es gs) (hn : (assignEach es X.env).length = n := by rfl) (hst : (assignEach es X.env).findIdx? (·.1) = none := by rfl) :
    DG X tb (.Tuple es k pos) (dgTup gs n) :=
  (pg_tup hc h hn hst).imp fun v σ H Q ⟨sl, ρ, d, sl', hs, r, e, k⟩ => by
    cases d with
    | tup ds =>
      have e : (if ds.length = n then gs.go ds sl else none) = some sl' := e
      by_cases hl : ds.length = n
      · rw [if_pos hl] at e
        cases r with
        | tup him hds => exact ⟨_, _, rfl, him.seq, by rw [hds.length, hl], sl, ρ, ds, sl', hs, hds, e, k⟩
      · rw [if_neg hl] at e; cases e
    | wtup ds =>
      have e : (if ds.length = n then gs.go ds sl else none) = some sl' := e
      by_cases hl : ds.length = n
      · rw [if_pos hl] at e
        cases r with
        | wtup him hds => exact ⟨_, _, rfl, him.seq, by rw [hds.length, hl], sl, ρ, ds, sl', hs, hds, e, k⟩
      · rw [if_neg hl] at e; cases e
    | _ => cases e
/-- target = e -/
def sAsg (f : Sl → Cm D) (g : Tgt) : Sl → CS := sExp f fun d sl => match g.go d sl with
  | some sl' => sNx sl'
  | none => fun _ => none
theorem ds_asg {tg e : Expr} {f : Sl → Cm D} {g : Tgt} (he : DE X tb W e f) (hg : DG X tb tg g) (hs : swapsWithSole [tg] e pos.line X.env = pure false := by rfl) (hw : swappedStores [tg] e X.env = pure none := by rfl)
    (h1 : (assignEach [tg] X.env).map (·.2) = [assign tg X.env] := by rfl) : DS X tb W (.Assign [tg] e pos) (sAsg f g) :=
  (ps_asg he hg hs hw h1).imp fun De σ H h => by
    obtain ⟨sl0, ρ0, h1, h2⟩ := rdS.exp (Rq := rV X.K) h
    refine ⟨sl0, ρ0, h1, h2.imp fun v H1 ⟨sl, ρ1, d, hs, r, c⟩ => ?_⟩
    cases e1 : g.go d sl with
    | none =>
      rw [e1] at c
      obtain ⟨μ, r', μ', _, hc, _⟩ := c
      cases hc
    | some sl' =>
      rw [e1] at c
      exact ⟨sl, ρ1, d, sl', hs, r, e1, fun σ' h' _ => c.nx h'⟩
end
/-! ### loops -/
def Guard (gs : List (Nat × List D)) (μ : Mu) : Prop := ∀ p ∈ gs, μ[p.1]? = some (some (.lst p.2))
theorem guard_nil (μ : Mu) : Guard [] μ := fun _ h => nomatch h
def WalkD (G : Gx) (H : Hp) (ρ : Rho) (J : It) (items : List D) (gs : List (Nat × List D)) : Prop :=
  ∀ H2 ρ2 μ2, Step G ρ H ρ2 H2 μ2 → Guard gs μ2 → (∀ i, i < items.length → J.go i H2) ∧ (∀ i, i = items.length → J.stop i H2) ∧
    ∀ i d, items[i]? = some d → ∀ x H3, J.yld i H2 x H3 → Step G ρ2 H2 ρ2 H3 μ2 ∧ DRep G.K H3 ρ2 x d
def rIt (G : Gx) : Rel It (List D × List (Nat × List D)) := fun H ρ J p => WalkD G H ρ J p.1 p.2
abbrev DI (X : Cx) (tb : Addr → Prop) (W : WX) (tg iter : Expr) (f : Sl → Cm (List D × List (Nat × List D))) : Prop := PI X tg iter (rd (gx X tb) (rIt (gx X tb)) W f)
open Classical in
noncomputable def sLoop (g : Tgt) (body : Sl → CS) (gs : List (Nat × List D)) : List D → Sl → CS
  | [], sl => fun μ => some (.nx sl, μ)
  | d :: ds, sl => fun μ => match g.go d sl with
    | none => none
    | some sl1 => match body sl1 μ with
      | none => none
      | some (.nx sl2, μ2) => if Guard gs μ2 then sLoop g body gs ds sl2 μ2 else none
      | some (.ct sl2, μ2) => if Guard gs μ2 then sLoop g body gs ds sl2 μ2 else none
      | some (.bk sl2, μ2) => some (.nx sl2, μ2)
      | some (.rt d, μ2) => some (.rt d, μ2)
      | some (.ex x sl2, μ2) => some (.ex x sl2, μ2)
open Classical in
noncomputable def sFor (f : Sl → Cm (List D × List (Nat × List D))) (g : Tgt) (body : Sl → CS) : Sl → CS := sExp f fun p sl => fun μ => if Guard p.2 μ then sLoop g body p.2 p.1 sl μ else none
open Classical in
theorem ds_for {X : Cx} {tb : Addr → Prop} {W : WX} {pos : Pos} {tg iter : Expr} {body : List Stmt} {f : Sl → Cm (List D × List (Nat × List D))} {g : Tgt} {b : Sl → CS}
    (hp : PassesOwn (model X.prog X.w) X.A X.env X.xe) (hc : X.calm = true) (hi : DI X tb W tg iter f) (hg : DG X tb tg g) (hb : DSs X tb W body b)
    (hs : ∀ x, foldedSetIterable iter X.env x = pure x := by intro _; rfl) : DS X tb W (.For tg iter body [] pos) (sFor f g b) :=
  (ps_for hp hc hi hg hb hs).imp fun De σ H h => by
    obtain ⟨sl0, ρ0, h1, h2⟩ := rdS.exp (Rq := rIt (gx X tb)) h
    refine ⟨sl0, ρ0, h1, h2.imp fun J H1 ⟨sl, ρ1, p, hs, wk, c⟩ => ?_⟩
    obtain ⟨items, gs⟩ := p
    obtain ⟨μ, r, μ', hm, hc, he⟩ := c
    have wk : WalkD (gx X tb) H1 ρ1 J items gs := wk
    have hG : Guard gs μ := Classical.byContradiction fun hn => by simp only [if_neg hn] at hc; cases hc
    simp only [if_pos hG] at hc
    refine ⟨fun i m σ' H' => ∃ ρ' sl' μ1, m = items.length - i ∧ i ≤ items.length ∧ Step (gx X tb) ρ1 H1 ρ' H' μ1 ∧ StRep X.K H' ρ' σ' sl' ∧ Guard gs μ1 ∧ sLoop g b gs (items.drop i) sl' μ1 = some (r, μ') ∧ EndS (gx X tb) W ρ' H' μ' De r,
      ⟨items.length, ρ1, sl, μ, by simp, Nat.zero_le _, .refl hm, hs, hG, by simpa using hc, he⟩, ?_⟩
    rintro i m σ' H' ⟨ρ', sl', μ1, rfl, hi, st, hs', hG', hl, he'⟩
    obtain ⟨w1, w2, w3⟩ := wk H' ρ' μ1 st hG'
    by_cases hlt : i < items.length
    · refine .inr ⟨w1 i hlt, fun σ2 H2 => ∃ ρ2 sl2 μ2, Step (gx X tb) ρ1 H1 ρ2 H2 μ2 ∧ StRep X.K H2 ρ2 σ2 sl2 ∧ Guard gs μ2 ∧ sLoop g b gs (items.drop (i + 1)) sl2 μ2 = some (r, μ') ∧ EndS (gx X tb) W ρ2 H2 μ' De r,
        fun σ2 H2 ⟨ρ2, sl2, μ2, a1, a2, a3, a4, a5⟩ => ⟨items.length - (i + 1), by omega, ρ2, sl2, μ2, rfl, hlt, a1, a2, a3, a4, a5⟩, fun x H3 y => ?_⟩
      obtain ⟨d, hd⟩ : ∃ d, items[i]? = some d := ⟨items[i], List.getElem?_eq_getElem hlt⟩
      obtain ⟨st3, rx⟩ := w3 i d hd x H3 y
      rw [List.drop_eq_getElem_cons hlt] at hl
      have ed : items[i] = d := by rw [List.getElem?_eq_getElem hlt] at hd; exact Option.some.inj hd
      rw [ed] at hl
      unfold sLoop at hl
      cases eg : g.go d sl' with
      | none => rw [eg] at hl; cases hl
      | some sl1 =>
        rw [eg] at hl
        simp only at hl
        refine ⟨sl', ρ', d, sl1, hs'.step st3.ext st3.keep, rx, eg, fun σ4 hs4 _ => ?_⟩
        refine ⟨sl1, ρ', hs4, ?_⟩
        cases eb : b sl1 μ1 with
        | none => rw [eb] at hl; cases hl
        | some q =>
          obtain ⟨rb, μ2⟩ := q
          rw [eb] at hl
          have go : ∀ sl2, (if Guard gs μ2 then sLoop g b gs (items.drop (i + 1)) sl2 μ2 else none) = some (r, μ') → ∀ σ5 H5 ρ5, Step (gx X tb) ρ' H3 ρ5 H5 μ2 → StRep X.K H5 ρ5 σ5 sl2 →
              ∃ ρ2 sl2 μ2, Step (gx X tb) ρ1 H1 ρ2 H5 μ2 ∧ StRep X.K H5 ρ2 σ5 sl2 ∧ Guard gs μ2 ∧ sLoop g b gs (items.drop (i + 1)) sl2 μ2 = some (r, μ') ∧ EndS (gx X tb) W ρ2 H5 μ' De r := by
            intro sl2 e σ5 H5 ρ5 st5 hs5
            by_cases hG2 : Guard gs μ2
            · rw [if_pos hG2] at e
              exact ⟨ρ5, sl2, μ2, st.trans (st3.trans st5), hs5, hG2, e, he'.step (st3.trans st5)⟩
            · rw [if_neg hG2] at e; cases e
          cases rb with
          | nx sl2 => exact ⟨μ1, .nx sl2, μ2, st3.mu, eb, fun σ5 H5 ρ5 st5 hs5 => go sl2 hl σ5 H5 ρ5 st5 hs5⟩
          | ct sl2 => exact ⟨μ1, .ct sl2, μ2, st3.mu, eb, fun σ5 H5 ρ5 st5 hs5 => go sl2 hl σ5 H5 ρ5 st5 hs5⟩
          | bk sl2 =>
            simp only [Option.some.injEq, Prod.mk.injEq] at hl
            obtain ⟨rfl, rfl⟩ := hl
            exact ⟨μ1, .bk sl2, μ2, st3.mu, eb, fun σ5 H5 ρ5 st5 hs5 => he' σ5 H5 ρ5 (st3.trans st5) hs5⟩
          | rt d2 =>
            simp only [Option.some.injEq, Prod.mk.injEq] at hl
            obtain ⟨rfl, rfl⟩ := hl
            exact ⟨μ1, .rt d2, μ2, st3.mu, eb, fun v H5 ρ5 st5 r5 => he' v H5 ρ5 (st3.trans st5) r5⟩
          | ex x2 sl2 =>
            simp only [Option.some.injEq, Prod.mk.injEq] at hl
            obtain ⟨rfl, rfl⟩ := hl
            exact ⟨μ1, .ex x2 sl2, μ2, st3.mu, eb, fun cls dd σ5 H5 ρ5 st5 hs5 x5 => he' cls dd σ5 H5 ρ5 (st3.trans st5) hs5 x5⟩
    · have e : i = items.length := by omega
      subst e
      refine .inl ⟨w2 _ rfl, ?_⟩
      rw [List.drop_of_length_le (Nat.le_refl _)] at hl
      unfold sLoop at hl
      simp only [Option.some.injEq, Prod.mk.injEq] at hl
      obtain ⟨rfl, rfl⟩ := hl
      exact he' σ' H' ρ' (.refl st.mu) hs'
end DL

namespace DL
open PySem PySem.Spec PyProof.Rows L2
/-! ## new objects -/
theorem MuRep.frame {G : Gx} {H H' : Hp} {ρ : Rho} {μ : Mu} (m : MuRep G H ρ μ) (k : ∀ b o, H b = some o → H' b = some o) : MuRep G H' ρ μ := by
  have kk : Keep ρ H H' := ⟨fun b o e _ _ => k b o e, fun b o e => ⟨o, k b o e⟩⟩
  refine ⟨m.len, fun h mo e => ?_, m.dead, m.inj, fun a ha => let ⟨⟨o, h1⟩, h2⟩ := m.res a ha; ⟨⟨o, k a o h1⟩, h2⟩, fun P hP => ?_⟩
  · obtain ⟨a, e1, e2⟩ := m.at_ h mo e
    refine ⟨a, e1, ?_⟩
    cases mo with
    | lst ds =>
      obtain ⟨vs, h1, h2⟩ := e2
      exact ⟨vs, k _ _ h1, DReps.step (.refl _ _) kk ds vs h2⟩
    | ins c fs =>
      obtain ⟨C, dx, vs, h0, h1, h2, h3⟩ := e2
      exact ⟨C, dx, vs, h0, k _ _ h1, h2, DReps.step (.refl _ _) kk _ vs h3⟩
    | dic ks ds =>
      obtain ⟨vs, h1, h2, h3⟩ := e2
      exact ⟨vs, k _ _ h1, h2, DReps.step (.refl _ _) kk ds vs h3⟩
    | dit ks ds =>
      obtain ⟨vs, h1, h2, h3⟩ := e2
      exact ⟨vs, k _ _ h1, h2, DReps.step (.refl _ _) kk ds vs h3⟩
  · obtain ⟨ps, h1, h2⟩ := m.tb P hP
    exact ⟨ps, k _ _ h1, h2⟩
theorem Step.all {G : Gx} {H H' : Hp} {ρ : Rho} {μ : Mu} (m : MuRep G H ρ μ) (k : ∀ b o, H b = some o → H' b = some o) : Step G ρ H ρ H' μ :=
  ⟨.refl _ _, ⟨fun b o e _ _ => k b o e, fun b o e => ⟨o, k b o e⟩⟩, m.frame k⟩
theorem upd_all {H : Hp} {p : Addr} {o : HO} (h : H p = none) : ∀ b u, H b = some u → upd H p o b = some u := fun b u e => by
  rw [upd_ne (ne_of_none e h)]; exact e
theorem MuRep.live {G : Gx} {H : Hp} {ρ : Rho} {μ : Mu} (m : MuRep G H ρ μ) {h : Nat} {a : Addr} (e : ρ.hs[h]? = some (some a)) : ∃ o, H a = some o := by
  obtain ⟨mo, e1⟩ := m.dead h a e
  obtain ⟨a', e2, r⟩ := m.at_ h mo e1
  rw [e] at e2; cases e2
  cases mo with
  | lst ds => obtain ⟨vs, h1, _⟩ := r; exact ⟨_, h1⟩
  | ins c fs => obtain ⟨C, dx, vs, _, h1, _⟩ := r; exact ⟨_, h1⟩
  | dic ks ds => obtain ⟨vs, h1, _⟩ := r; exact ⟨_, h1⟩
  | dit ks ds => obtain ⟨vs, h1, _⟩ := r; exact ⟨_, h1⟩
theorem MuRep.fresh {G : Gx} {H : Hp} {ρ : Rho} {μ : Mu} (m : MuRep G H ρ μ) {p : Addr} (h : H p = none) : NotLive ρ p := by
  refine ⟨fun i e => ?_, fun e => ?_⟩
  · obtain ⟨o, q⟩ := m.live e
    rw [h] at q
    cases q
  · obtain ⟨⟨o, q⟩, _⟩ := m.res p e
    rw [h] at q
    cases q
theorem new_lst {G : Gx} {H : Hp} {ρ : Rho} {μ : Mu} {p : Addr} {vs : List V} {ds : List D} (m : MuRep G H ρ μ) (h : H p = none) (r : DReps G.K H ρ vs ds) :
    Step G ρ H ρ (upd H p (.lst vs)) μ ∧ DRep G.K (upd H p (.lst vs)) ρ (.ref p) (.lst ds) :=
  have s := Step.all (ρ := ρ) m (upd_all (o := .lst vs) h)
  ⟨s, .lst ⟨.inl upd_same, m.fresh h⟩ (DReps.step s.ext s.keep ds vs r)⟩
theorem new_wtup {G : Gx} {H : Hp} {ρ : Rho} {μ : Mu} {p : Addr} {vs : List V} {ds : List D} (m : MuRep G H ρ μ) (h : H p = none) (r : DReps G.K H ρ vs ds) :
    Step G ρ H ρ (upd H p (.tup vs)) μ ∧ DRep G.K (upd H p (.tup vs)) ρ (.ref p) (.wtup ds) :=
  have s := Step.all (ρ := ρ) m (upd_all (o := .tup vs) h)
  ⟨s, .wtup ⟨.inl upd_same, m.fresh h⟩ (DReps.step s.ext s.keep ds vs r)⟩
theorem new_tup {G : Gx} {H : Hp} {ρ : Rho} {μ : Mu} {p : Addr} {ob : Obj} {vs : List V} {ds : List D} (m : MuRep G H ρ μ) (h : H p = none) (hd : ob.dict = none) (r : DReps G.K H ρ vs ds) :
    Step G ρ H ρ (upd H p (.frz ob (.tup vs))) μ ∧ DRep G.K (upd H p (.frz ob (.tup vs))) ρ (.ref p) (.tup ds) :=
  have s := Step.all (ρ := ρ) m (upd_all (o := .frz ob (.tup vs)) h)
  ⟨s, .tup (.inl ⟨⟨ob, upd_same, hd⟩, m.fresh h⟩) (DReps.step s.ext s.keep ds vs r)⟩
theorem Cfg.okA {G : Gx} {α β : Type} {Rp : Rel α β} {W : Value → Option Addr → Hp → Prop} {ρ : Rho} {H : Hp} {d : β} {Q : α → Hp → Prop} (h : Cfg G Rp W ρ H (Cm.ok d) Q) :
    ∃ μ, MuRep G H ρ μ ∧ ∀ v H' ρ', Step G ρ H ρ' H' μ → Rp H' ρ' v d → Q v H' := by
  obtain ⟨μ, r', μ', hm, hc, he⟩ := h
  unfold Cm.ok at hc
  simp only [Option.some.injEq, Prod.mk.injEq] at hc
  obtain ⟨rfl, rfl⟩ := hc
  exact ⟨μ, hm, he⟩
/-- a new list, a new tuple as an answer -/
theorem Cfg.newL {G : Gx} {W : Value → Option Addr → Hp → Prop} {ρ : Rho} {H : Hp} {ds : List D} {vs : List V} {Q : VK} (h : Cfg G (rV G.K) W ρ H (Cm.ok (.lst ds)) Q) (r : DReps G.K H ρ vs ds) : ∀ p, H p = none → Q (.ref p) (upd H p (.lst vs)) := fun p hp => by
  obtain ⟨μ, hm, he⟩ := h.okA
  obtain ⟨s, q⟩ := new_lst hm hp r
  exact he _ _ ρ s q
theorem Cfg.newT {G : Gx} {W : Value → Option Addr → Hp → Prop} {ρ : Rho} {H : Hp} {ds : List D} {vs : List V} {Q : VK} (h : Cfg G (rV G.K) W ρ H (Cm.ok (.tup ds)) Q) (r : DReps G.K H ρ vs ds) : ∀ p ob, H p = none → Obj.dict ob = none → Q (.ref p) (upd H p (.frz ob (.tup vs))) := fun p ob hp hd => by
  obtain ⟨μ, hm, he⟩ := h.okA
  obtain ⟨s, q⟩ := new_tup hm hp hd r
  exact he _ _ ρ s q
theorem Cfg.newW {G : Gx} {W : Value → Option Addr → Hp → Prop} {ρ : Rho} {H : Hp} {ds : List D} {vs : List V} {Q : VK} (h : Cfg G (rV G.K) W ρ H (Cm.ok (.wtup ds)) Q) (r : DReps G.K H ρ vs ds) : ∀ p, H p = none → Q (.ref p) (upd H p (.tup vs)) := fun p hp => by
  obtain ⟨μ, hm, he⟩ := h.okA
  obtain ⟨s, q⟩ := new_wtup hm hp r
  exact he _ _ ρ s q
/-! ## expressions: names, constants -/
def eVar (i : Nat) : Sl → Cm D := fun sl => Cm.lift (sl[i]?.bind id)
def eK (d : D) : Sl → Cm D := fun _ => Cm.ok d
section
variable {X : Cx} {tb : Addr → Prop} {W : WX} {pos : Pos}
theorem de_var {i : Nat} {x : Str} (h : PE X (.Name x pos) (tVar i)) : DE X tb W (.Name x pos) (eVar i) :=
  h.imp fun σ H Q ⟨sl, ρ, hs, hc⟩ => by
    obtain ⟨d, e, c⟩ := Cfg.lift hc
    have e' : sl[i]? = some (some d) := by
      cases q : sl[i]? with
      | none => rw [q] at e; cases e
      | some o => rw [q] at e; simp at e; rw [e]
    obtain ⟨v, h1, h2⟩ := hs.at_ i d e'
    exact ⟨v, h1, c.ok v h2⟩
theorem dv (i : Nat) {x : Str} {pos : Pos} (hN : X.N[i]? = some x := by rfl) (hv : Vis X.env.scope x := by first | exact Or.inl rfl | exact Or.inr (Or.inl rfl) | exact Or.inr (Or.inr rfl)) (hd : (x == ("__debug__" : Str)) = false := by decide)
    (hcd : (x == ("__classdict__" : Str)) = false := by decide) : DE X tb W (.Name x pos) (eVar i) := de_var (pe_var hN hv hd hcd)
theorem de_c {e : Expr} {v : V} {d : D} (h : PE X e (tC v)) (r : ∀ H ρ, DRep X.K H ρ v d) : DE X tb W e (eK d) := h.imp fun σ H Q ⟨sl, ρ, hs, hc⟩ => Cfg.ok hc v (r H ρ)
theorem de_int {i j} : DE X tb W (.Constant (.int i) j pos) (eK (.int i)) := de_c pe_int fun _ _ => .int i
theorem de_bl {b j} : DE X tb W (.Constant (.bool b) j pos) (eK (.bl b)) := de_c pe_bl fun _ _ => .bl b
theorem de_non {j} : DE X tb W (.Constant .none j pos) (eK .non) := de_c pe_non fun _ _ => .non
theorem de_str {x j} : DE X tb W (.Constant (.str x) j pos) (eK (.str x)) := de_c pe_str fun _ _ => .str x
/-- a global constant -/
theorem de_glob {x : Str} {v : V} {u : Value} {d : D} (hg : Gl X x) (hm : X.mg x = some u) (r : RelV v u) (rd : ∀ H ρ, DRep X.K H ρ v d) (hd : (x == ("__debug__" : Str)) = false := by decide) : DE X tb W (.Name x pos) (eK d) := de_c (pe_glob hg hm r hd) rd
/-! ## two-place operations -/
def eOp2 (o : D → D → Cm D) (fa fb : Sl → Cm D) : Sl → Cm D := fun sl => (fa sl).bind fun x => (fb sl).bind fun y => o x y
abbrev Sem2 (G : Gx) (o : D → D → Cm D) (r : R2) : Prop := ∀ (W : Value → Option Addr → Hp → Prop) ρ H x y dx dy Q, DRep G.K H ρ x dx → DRep G.K H ρ y dy → Cfg G (rV G.K) W ρ H (o dx dy) Q → r x y H Q
theorem rd_op2 {G : Gx} {o : D → D → Cm D} {r : R2} (sem : Sem2 G o r) {fa fb : Sl → Cm D} {σ : L2.St} {H : Hp} {Q : VK} (h : rd G (rV G.K) W (eOp2 o fa fb) σ H Q) : tOp r (rd G (rV G.K) W fa) (rd G (rV G.K) W fb) σ H Q := by
  obtain ⟨sl, ρ, hs, hc⟩ := h
  refine ⟨sl, ρ, hs, (Cfg.bind (Rq := rV G.K) hc).imp fun v H1 ⟨ρ1, dx, rx, x1, k1, c1⟩ => ?_⟩
  refine ⟨sl, ρ1, hs.step x1 k1, (Cfg.bind (Rq := rV G.K) c1).imp fun u H2 ⟨ρ2, dy, ry, x2, k2, c2⟩ => ?_⟩
  exact sem _ ρ2 H2 v u dx dy Q (DRep.step x2 k2 dx v rx) ry c2
theorem de_op {a b : Expr} {op : Operator} {r : R2} {o : D → D → Cm D} {fa fb : Sl → Cm D} (ho : OpR X (binaryOp op) r) (sem : Sem2 (gx X tb) o r) (ha : DE X tb W a fa) (hb : DE X tb W b fb) : DE X tb W (.BinOp a op b pos) (eOp2 o fa fb) :=
  (pe_op ho ha hb).imp fun σ H Q h => rd_op2 sem h
theorem de_cmp {a b : Expr} {op : CmpOp} {r : R2} {o : D → D → Cm D} {fa fb : Sl → Cm D} (ho : OpR X (compareOp op) r) (sem : Sem2 (gx X tb) o r) (ha : DE X tb W a fa) (hb : DE X tb W b fb) (hm : behindInMarks op b = false) : DE X tb W (.Compare a [op] [b] pos) (eOp2 o fa fb) :=
  (pe_cmpR ho ha hb hm).imp fun σ H Q h => rd_op2 sem h
theorem de_ix {a b : Expr} {r : R2} {o : D → D → Cm D} {fa fb : Sl → Cm D} (ho : IxR X r) (sem : Sem2 (gx X tb) o r) (ha : DE X tb W a fa) (hb : DE X tb W b fb) (hs : PlainIx b) : DE X tb W (.Subscript a b pos) (eOp2 o fa fb) :=
  (pe_ix ho ha hb hs).imp fun σ H Q h => rd_op2 sem h
def eUn (o : D → Cm D) (fa : Sl → Cm D) : Sl → Cm D := fun sl => (fa sl).bind o
theorem de_un {a : Expr} {op : UnaryOp} {r : V → Hp → VK → Prop} {o : D → Cm D} {fa : Sl → Cm D} (ho : UnR X (unaryOp op) r)
    (sem : ∀ (W : Value → Option Addr → Hp → Prop) ρ H x dx Q, DRep X.K H ρ x dx → Cfg (gx X tb) (rV X.K) W ρ H (o dx) Q → r x H Q) (ha : DE X tb W a fa) : DE X tb W (.UnaryOp op a pos) (eUn o fa) :=
  (pe_un ho ha).imp fun σ H Q ⟨sl, ρ, hs, hc⟩ => ⟨sl, ρ, hs, (Cfg.bind (Rq := rV X.K) hc).imp fun v H1 ⟨ρ1, dx, rx, x1, k1, c1⟩ => sem _ ρ1 H1 v dx Q rx c1⟩
/-! ### tests -/
def cBl (m : Cm D) : Cm Bool := m.bind fun d => Cm.lift (match d with | .bl b => some b | _ => none)
def tBl (f : Sl → Cm D) : Sl → Cm Bool := fun sl => cBl (f sl)
/-- an expression that gives True or False -/
theorem dt_val {e : Expr} {f : Sl → Cm D} (h : PT X e (tTest (rd (gx X tb) (rV X.K) W f))) : DT X tb W e (tBl f) :=
  h.imp fun σ H Q ⟨sl, ρ, hs, hc⟩ => by
    refine ⟨sl, ρ, hs, (Cfg.bind (Rq := rV X.K) hc).imp fun v H1 ⟨ρ1, dx, rx, x1, k1, c1⟩ => ?_⟩
    obtain ⟨b, e, c⟩ := Cfg.lift c1
    cases dx with
    | bl b' =>
      cases rx
      cases e
      exact ⟨_, rfl, c.ok _ rfl⟩
    | _ => cases e
theorem dt_cmp {a b : Expr} {op : CmpOp} {r : R2} {o : D → D → Cm D} {fa fb : Sl → Cm D} (ho : OpR X (compareOp op) r) (sem : Sem2 (gx X tb) o r) (ha : DE X tb W a fa) (hb : DE X tb W b fb) (hm : behindInMarks op b = false) : DT X tb W (.Compare a [op] [b] pos) (tBl (eOp2 o fa fb)) :=
  dt_val ((pt_cmpR ho ha hb hm).imp fun σ H Q h => rd_op2 sem h)
def dTruth (μ : Mu) : D → Option Bool
  | .non => some false
  | .bl b => some b
  | .int i => some (i != 0)
  | .str s => if s.length ≤ sizeLine then some (s.length != 0) else none
  | .lst xs => some (!xs.isEmpty)
  | .tup xs => some (!xs.isEmpty)
  | .wtup _ => none
  | .mref h => match μ[h]? with | some (some (.lst xs)) => some (!xs.isEmpty) | _ => none
  | .dic _ _ => none
def cTru (m : Cm D) : Cm Bool := m.bind fun d μ => match dTruth μ d with | some b => some (.ok b, μ) | none => none
theorem isEmpty_reps {K : PySem.W.Frag} {H : Hp} {ρ : Rho} {vs : List V} {ds : List D} (r : DReps K H ρ vs ds) : (!vs.isEmpty) = !ds.isEmpty := by cases r <;> rfl
theorem MuRep.lst {G : Gx} {H : Hp} {ρ : Rho} {μ : Mu} (m : MuRep G H ρ μ) {h : Nat} {v : V} {ds : List D} (r : DRep G.K H ρ v (.mref h)) (e : μ[h]? = some (some (.lst ds))) : ∃ a vs, v = .ref a ∧ ρ.hs[h]? = some (some a) ∧ H a = some (.lst vs) ∧ DReps G.K H ρ vs ds := by
  cases r with
  | mref h1 h2 =>
    obtain ⟨a', e1, vs, e2, e3⟩ := m.at_ h _ e
    have := h2 a' e1
    subst this
    exact ⟨_, vs, rfl, e1, e2, e3⟩
theorem truth_ok {G : Gx} {H : Hp} {ρ : Rho} {μ : Mu} (m : MuRep G H ρ μ) {v : V} {d : D} {b : Bool} (r : DRep G.K H ρ v d) (e : dTruth μ d = some b) : TruV G.K v H b := by
  cases d with
  | non => cases r; cases e; rfl
  | bl b' => cases r; cases e; rfl
  | int i => cases r; cases e; rfl
  | str s =>
    cases r
    have e : (if s.length ≤ sizeLine then some (s.length != 0) else none) = some b := e
    by_cases hl : s.length ≤ sizeLine
    · rw [if_pos hl] at e
      cases e
      refine ⟨hl, ?_⟩
      rw [Bool.eq_iff_iff]
      simp
    · rw [if_neg hl] at e; cases e
  | lst ds => cases r with | lst i rs => cases e; exact .inl ⟨_, i.seq, (isEmpty_reps rs).symm⟩
  | tup ds => cases r with | tup i rs => cases e; exact .inr (.inl ⟨_, i.seq, (isEmpty_reps rs).symm⟩)
  | wtup ds => cases e
  | mref h =>
    have e : (match μ[h]? with | some (some (.lst xs)) => some (!xs.isEmpty) | _ => none) = some b := e
    cases q : μ[h]? with
    | none => rw [q] at e; cases e
    | some o =>
      cases o with
      | none => rw [q] at e; cases e
      | some mo =>
        cases mo with
        | lst ds =>
          rw [q] at e
          cases e
          obtain ⟨a, vs, rfl, _, e2, e3⟩ := m.lst r q
          exact .inl ⟨vs, .inl (.inl e2), (isEmpty_reps e3).symm⟩
        | ins c fs => rw [q] at e; cases e
        | dic ks ds => rw [q] at e; cases e
        | dit ks ds => rw [q] at e; cases e
  | dic _ _ => cases e
theorem dt_truth {a : Expr} {f : Sl → Cm D} (ha : DE X tb W a f) (he : ∀ whole, isTrue a X.env whole = (do let v ← whole; standAt a.pos; holding [v] (truthy v))) : DT X tb W a (fun sl => cTru (f sl)) :=
  (pt_truth ha he).imp fun σ H Q ⟨sl, ρ, hs, hc⟩ => by
    refine ⟨sl, ρ, hs, (Cfg.bind (Rq := rV X.K) hc).imp fun v H1 ⟨ρ1, dx, rx, x1, k1, c1⟩ => ?_⟩
    obtain ⟨μ, r, μ', hm, hc1, he1⟩ := c1
    have hc1 : (match dTruth μ dx with | some b => some (R.ok b, μ) | none => none) = some (r, μ') := hc1
    cases e : dTruth μ dx with
    | none => rw [e] at hc1; cases hc1
    | some b =>
      rw [e] at hc1
      simp only [Option.some.injEq, Prod.mk.injEq] at hc1
      obtain ⟨rfl, rfl⟩ := hc1
      exact ⟨b, truth_ok hm rx e, he1 b H1 ρ1 (.refl hm) rfl⟩
def tNt (f : Sl → Cm Bool) : Sl → Cm Bool := fun sl => (f sl).bind fun b => Cm.ok (!b)
theorem dt_not {a : Expr} {f : Sl → Cm Bool} (ha : DT X tb W a f) : DT X tb W (.UnaryOp .Not a pos) (tNt f) :=
  (pt_not ha).imp fun σ H Q ⟨sl, ρ, hs, hc⟩ => ⟨sl, ρ, hs, (Cfg.bind (Rq := rB) hc).imp fun v H1 ⟨ρ1, d, r, x, k, c⟩ => by
    have e : v = d := r
    subst e
    exact c.ok _ rfl⟩
def tAn (f g : Sl → Cm Bool) : Sl → Cm Bool := fun sl => (f sl).bind fun b => if b = true then g sl else Cm.ok false
def tOo (f g : Sl → Cm Bool) : Sl → Cm Bool := fun sl => (f sl).bind fun b => if b = true then Cm.ok true else g sl
theorem dw_one_and {a : Expr} {f : Sl → Cm Bool} (ha : DT X tb W a f) : DW X tb W (.BoolOp .And [a] pos) f := pw_and1 ha
theorem dw_one_or {a : Expr} {f : Sl → Cm Bool} (ha : DT X tb W a f) : DW X tb W (.BoolOp .Or [a] pos) f := pw_or1 ha
theorem dw_and {a b : Expr} {rest : List Expr} {f g : Sl → Cm Bool} (ha : DT X tb W a f) (hb : DW X tb W (.BoolOp .And (b :: rest) pos) g) : DW X tb W (.BoolOp .And (a :: b :: rest) pos) (tAn f g) :=
  (pw_and ha hb).imp fun σ H Q ⟨sl, ρ, hs, hc⟩ => ⟨sl, ρ, hs, (Cfg.bind (Rq := rB) hc).imp fun v H1 ⟨ρ1, d, r, x, k, c⟩ => by
    have e : v = d := r
    subst e
    by_cases hv : v = true
    · rw [if_pos hv]; rw [if_pos hv] at c; exact ⟨sl, ρ1, hs.step x k, c⟩
    · rw [if_neg hv]; rw [if_neg hv] at c; exact c.ok _ rfl⟩
theorem dw_or {a b : Expr} {rest : List Expr} {f g : Sl → Cm Bool} (ha : DT X tb W a f) (hb : DW X tb W (.BoolOp .Or (b :: rest) pos) g) : DW X tb W (.BoolOp .Or (a :: b :: rest) pos) (tOo f g) :=
  (pw_or ha hb).imp fun σ H Q ⟨sl, ρ, hs, hc⟩ => ⟨sl, ρ, hs, (Cfg.bind (Rq := rB) hc).imp fun v H1 ⟨ρ1, d, r, x, k, c⟩ => by
    have e : v = d := r
    subst e
    by_cases hv : v = true
    · rw [if_pos hv]; rw [if_pos hv] at c; exact c.ok _ rfl
    · rw [if_neg hv]; rw [if_neg hv] at c; exact ⟨sl, ρ1, hs.step x k, c⟩⟩
/-! ### as values -/
def cTruD (d : D) : Cm Bool := fun μ => match dTruth μ d with | some b => some (.ok b, μ) | none => none
theorem Cfg.tru {G : Gx} {W : Value → Option Addr → Hp → Prop} {ρ : Rho} {H : Hp} {d : D} {v : V} {g : Bool → Cm D} {Q : VK} (h : Cfg G (rV G.K) W ρ H ((cTruD d).bind g) Q) (r : DRep G.K H ρ v d) : ∃ b, TruV G.K v H b ∧ Cfg G (rV G.K) W ρ H (g b) Q := by
  obtain ⟨μ, q, μ', hm, hc, he⟩ := h
  unfold Cm.bind cTruD at hc
  cases e : dTruth μ d with
  | none => rw [e] at hc; cases hc
  | some b => rw [e] at hc; exact ⟨b, truth_ok hm r e, μ, q, μ', hm, hc, he⟩
def eAnd (f g : Sl → Cm D) : Sl → Cm D := fun sl => (f sl).bind fun d => (cTruD d).bind fun b => if b = true then g sl else Cm.ok d
def eOr (f g : Sl → Cm D) : Sl → Cm D := fun sl => (f sl).bind fun d => (cTruD d).bind fun b => if b = true then Cm.ok d else g sl
def eNot (f : Sl → Cm D) : Sl → Cm D := fun sl => (f sl).bind fun d => (cTruD d).bind fun b => Cm.ok (.bl (!b))
theorem de_one_and {a : Expr} {f : Sl → Cm D} (ha : DE X tb W a f) : DE X tb W (.BoolOp .And [a] pos) f := pe_one ha
theorem de_one_or {a : Expr} {f : Sl → Cm D} (ha : DE X tb W a f) : DE X tb W (.BoolOp .Or [a] pos) f := pe_one ha
theorem de_and {a b : Expr} {rest : List Expr} {f g : Sl → Cm D} (ha : DE X tb W a f) (hb : DE X tb W (.BoolOp .And (b :: rest) pos) g) : DE X tb W (.BoolOp .And (a :: b :: rest) pos) (eAnd f g) :=
  (pe_andT ha hb).imp fun σ H Q ⟨sl, ρ, hs, hc⟩ => ⟨sl, ρ, hs, (Cfg.bind (Rq := rV X.K) hc).imp fun v H1 ⟨ρ1, d, r, x, k, c⟩ => by
    obtain ⟨b, hb, c⟩ := Cfg.tru c r
    refine ⟨b, hb, ?_⟩
    by_cases hv : b = true
    · rw [if_pos hv]; rw [if_pos hv] at c; exact ⟨sl, ρ1, hs.step x k, c⟩
    · rw [if_neg hv]; rw [if_neg hv] at c; exact c.ok _ r⟩
theorem de_or {a b : Expr} {rest : List Expr} {f g : Sl → Cm D} (ha : DE X tb W a f) (hb : DE X tb W (.BoolOp .Or (b :: rest) pos) g) : DE X tb W (.BoolOp .Or (a :: b :: rest) pos) (eOr f g) :=
  (pe_orT ha hb).imp fun σ H Q ⟨sl, ρ, hs, hc⟩ => ⟨sl, ρ, hs, (Cfg.bind (Rq := rV X.K) hc).imp fun v H1 ⟨ρ1, d, r, x, k, c⟩ => by
    obtain ⟨b, hb, c⟩ := Cfg.tru c r
    refine ⟨b, hb, ?_⟩
    by_cases hv : b = true
    · rw [if_pos hv]; rw [if_pos hv] at c; exact c.ok _ r
    · rw [if_neg hv]; rw [if_neg hv] at c; exact ⟨sl, ρ1, hs.step x k, c⟩⟩
theorem de_not {a : Expr} {f : Sl → Cm D} (ha : DE X tb W a f) : DE X tb W (.UnaryOp .Not a pos) (eNot f) :=
  (pe_notT ha).imp fun σ H Q ⟨sl, ρ, hs, hc⟩ => ⟨sl, ρ, hs, (Cfg.bind (Rq := rV X.K) hc).imp fun v H1 ⟨ρ1, d, r, x, k, c⟩ => by
    obtain ⟨b, hb, c⟩ := Cfg.tru c r
    exact ⟨b, hb, c.ok _ (.bl _)⟩⟩
def eIf (c : Sl → Cm Bool) (f g : Sl → Cm D) : Sl → Cm D := fun sl => (c sl).bind fun b => if b = true then f sl else g sl
theorem de_ifExp {c a b : Expr} {fc : Sl → Cm Bool} {f g : Sl → Cm D} (hc : DT X tb W c fc) (ha : DE X tb W a f) (hb : DE X tb W b g) : DE X tb W (.IfExp c a b pos) (eIf fc f g) :=
  (pe_ifExp hc ha hb).imp fun σ H Q ⟨sl, ρ, hs, hc⟩ => ⟨sl, ρ, hs, (Cfg.bind (Rq := rB) hc).imp fun v H1 ⟨ρ1, d, r, x, k, c⟩ => by
    have e : v = d := r
    subst e
    by_cases hv : v = true
    · rw [if_pos hv]; rw [if_pos hv] at c; exact ⟨sl, ρ1, hs.step x k, c⟩
    · rw [if_neg hv]; rw [if_neg hv] at c; exact ⟨sl, ρ1, hs.step x k, c⟩⟩
/-! ## arguments, displays, calls of built-ins -/
def aNil : Sl → Cm (List D) := fun _ => Cm.ok []
def aCons (f : Sl → Cm D) (g : Sl → Cm (List D)) : Sl → Cm (List D) := fun sl => (f sl).bind fun d => (g sl).bind fun ds => Cm.ok (d :: ds)
theorem da_nil : DA X tb W [] aNil := pa_nil.imp fun σ H Q ⟨sl, ρ, hs, hc⟩ => hc.ok [] .nil
theorem da_cons {a : Expr} {as : List Expr} {f : Sl → Cm D} {g : Sl → Cm (List D)} (ha : DE X tb W a f) (hb : DA X tb W as g) (hs : starEach (a :: as) X.env = (false, eval a X.env) :: starEach as X.env := by rfl) : DA X tb W (a :: as) (aCons f g) :=
  (pa_cons ha hb hs).imp fun σ H Q ⟨sl, ρ, hs, hc⟩ => ⟨sl, ρ, hs, (Cfg.bind (Rq := rV X.K) hc).imp fun v H1 ⟨ρ1, d, r, x, k, c⟩ =>
    ⟨sl, ρ1, hs.step x k, (Cfg.bind (Rq := rVs X.K) c).imp fun vs H2 ⟨ρ2, ds, rs, x2, k2, c2⟩ => c2.ok (v :: vs) (.cons (DRep.step x2 k2 d v r) rs)⟩⟩
abbrev SemC (G : Gx) (o : List D → Cm D) (r : List V → Hp → VK → Prop) : Prop := ∀ (W : Value → Option Addr → Hp → Prop) ρ H xs ds Q, DReps G.K H ρ xs ds → Cfg G (rV G.K) W ρ H (o ds) Q → r xs H Q
def eCB (o : List D → Cm D) (fs : Sl → Cm (List D)) : Sl → Cm D := fun sl => (fs sl).bind o
theorem rd_cb {G : Gx} {o : List D → Cm D} {r : List V → Hp → VK → Prop} (sem : SemC G o r) {fs : Sl → Cm (List D)} {σ : L2.St} {H : Hp} {Q : VK} (h : rd G (rV G.K) W (eCB o fs) σ H Q) : rd G (rVs G.K) W fs σ H fun vs H1 => r vs H1 Q := by
  obtain ⟨sl, ρ, hs, hc⟩ := h
  exact ⟨sl, ρ, hs, (Cfg.bind (Rq := rVs G.K) hc).imp fun vs H1 ⟨ρ1, ds, rs, x, k, c⟩ => sem _ ρ1 H1 vs ds Q rs c⟩
theorem de_callB {x : Str} {e : Expr} {es : List Expr} {p : Pos} {b : String} {r : List V → Hp → VK → Prop} {o : List D → Cm D} {fs : Sl → Cm (List D)} (hc : CallR X (.builtin b) r) (sem : SemC (gx X tb) o r) (hg : Gl X x) (hm : X.mg x = none) (hv : bootBuiltins x = some (.builtin b)) (ha : DA X tb W (e :: es) fs)
    (hn : x ≠ "__name__" := by decide) (hdb : (x == ("__debug__" : Str)) = false := by decide) (he : starEach (e :: es) X.env = (false, eval e X.env) :: starEach es X.env := by rfl) (hpl : (backTo pos (starEach es X.env)).any (·.1) = false := by rfl) :
    DE X tb W (.Call (.Name x p) (e :: es) [] pos) (eCB o fs) := (pe_callB hc hg hm hv ha hn hdb he hpl).imp fun σ H Q h => rd_cb sem h
theorem de_callTy {x : Str} {e : Expr} {es : List Expr} {p : Pos} {T : String} {r : List V → Hp → VK → Prop} {o : List D → Cm D} {fs : Sl → Cm (List D)} (hc : CallR X (.type T) r) (sem : SemC (gx X tb) o r) (hg : Gl X x) (hm : X.mg x = none) (hv : bootBuiltins x = some (.type T)) (ha : DA X tb W (e :: es) fs)
    (hn : x ≠ "__name__" := by decide) (hdb : (x == ("__debug__" : Str)) = false := by decide) (he : starEach (e :: es) X.env = (false, eval e X.env) :: starEach es X.env := by rfl) (hpl : (backTo pos (starEach es X.env)).any (·.1) = false := by rfl) :
    DE X tb W (.Call (.Name x p) (e :: es) [] pos) (eCB o fs) := (pe_callTy hc hg hm hv ha hn hdb he hpl).imp fun σ H Q h => rd_cb sem h
def oTup (ds : List D) : Cm D := if ds.length ≤ sizeLine then Cm.ok (.tup ds) else Cm.fail
def oLst (ds : List D) : Cm D := if ds.length ≤ sizeLine then Cm.ok (.lst ds) else Cm.fail
/-- a list that will be changed -/
def oMut (ds : List D) : Cm D := fun μ => if ds.length ≤ sizeLine then some (.ok (.mref μ.length), μ ++ [some (.lst ds)]) else none
theorem Cfg.fails {G : Gx} {α β : Type} {Rp : Rel α β} {W : Value → Option Addr → Hp → Prop} {ρ : Rho} {H : Hp} {Q : α → Hp → Prop} (h : Cfg G Rp W ρ H Cm.fail Q) : False := by
  obtain ⟨μ, r', μ', hm, hc, he⟩ := h
  cases hc
theorem de_tup {es : List Expr} {x1 : Nat} {fs : Sl → Cm (List D)} (ha : PE X (.Tuple es x1 pos) (tTupS (rd (gx X tb) (rVs X.K) W fs))) : DE X tb W (.Tuple es x1 pos) (eCB oTup fs) :=
  ha.imp fun σ H Q ⟨sl, ρ, hs, hc⟩ => ⟨sl, ρ, hs, (Cfg.bind (Rq := rVs X.K) hc).imp fun vs H1 ⟨ρ1, ds, rs, x, k, c⟩ => by
    unfold oTup at c
    by_cases hl : ds.length ≤ sizeLine
    · rw [if_pos hl] at c
      exact ⟨by rw [rs.length]; exact hl, c.newT rs⟩
    · rw [if_neg hl] at c; exact c.fails.elim⟩
theorem de_lst {es : List Expr} {fs : Sl → Cm (List D)} (ha : PE X (.List es pos) (tLst (rd (gx X tb) (rVs X.K) W fs))) : DE X tb W (.List es pos) (eCB oLst fs) :=
  ha.imp fun σ H Q ⟨sl, ρ, hs, hc⟩ => ⟨sl, ρ, hs, (Cfg.bind (Rq := rVs X.K) hc).imp fun vs H1 ⟨ρ1, ds, rs, x, k, c⟩ => by
    unfold oLst at c
    by_cases hl : ds.length ≤ sizeLine
    · rw [if_pos hl] at c
      exact ⟨by rw [rs.length]; exact hl, c.newL rs⟩
    · rw [if_neg hl] at c; exact c.fails.elim⟩
end
/-- the same things stand, others may live -/
structure Shift (ρ ρ' : Rho) : Prop where
  not : ∀ a, NotLive ρ a → NotLive ρ' a
  len : ρ.hs.length ≤ ρ'.hs.length
  at_ : ∀ h : Nat, h < ρ.hs.length → ρ'.hs[h]? = ρ.hs[h]?
mutual
theorem DRep.shift {K : PySem.W.Frag} {H : Hp} {ρ ρ' : Rho} (s : Shift ρ ρ') : ∀ (d : D) (v : V), DRep K H ρ v d → DRep K H ρ' v d
  | .non, _, r => by cases r; exact .non
  | .bl b, _, r => by cases r; exact .bl b
  | .int i, _, r => by cases r; exact .int i
  | .str x, _, r => by cases r; exact .str x
  | .lst ds, _, r => by cases r with | lst h rs => exact .lst ⟨h.1, s.not _ h.2⟩ (DReps.shift s ds _ rs)
  | .tup ds, _, r => by cases r with | tup h rs => exact .tup (h.elim (fun z => .inl ⟨z.1, s.not _ z.2⟩) .inr) (DReps.shift s ds _ rs)
  | .wtup ds, _, r => by cases r with | wtup h rs => exact .wtup ⟨h.1, s.not _ h.2⟩ (DReps.shift s ds _ rs)
  | .mref h, _, r => by cases r with | mref h1 h2 => exact .mref (Nat.lt_of_lt_of_le h1 s.len) fun a' e => h2 a' (by rw [← s.at_ _ h1]; exact e)
  | .dic ks ds, _, r => by cases r with | dic h n l rs => exact .dic h (s.not _ n) l (DReps.shift s ds _ rs)
theorem DReps.shift {K : PySem.W.Frag} {H : Hp} {ρ ρ' : Rho} (s : Shift ρ ρ') : ∀ (ds : List D) (vs : List V), DReps K H ρ vs ds → DReps K H ρ' vs ds
  | [], _, r => by cases r; exact .nil
  | d :: ds, _, r => by cases r with | cons a b => exact .cons (DRep.shift s d _ a) (DReps.shift s ds _ b)
end
theorem MORep.shift {K : PySem.W.Frag} {mg : Str → Option Value} {H : Hp} {ρ ρ' : Rho} (s : Shift ρ ρ') {a : Addr} : ∀ {mo : MO}, MORep K mg H ρ a mo → MORep K mg H ρ' a mo
  | .lst ds, ⟨vs, h1, h2⟩ => ⟨vs, h1, DReps.shift s ds vs h2⟩
  | .ins _ _, ⟨C, dx, vs, h0, h1, h2, h3⟩ => ⟨C, dx, vs, h0, h1, h2, DReps.shift s _ vs h3⟩
  | .dic _ ds, ⟨vs, h1, h2, h3⟩ => ⟨vs, h1, h2, DReps.shift s ds vs h3⟩
  | .dit _ ds, ⟨vs, h1, h2, h3⟩ => ⟨vs, h1, h2, DReps.shift s ds vs h3⟩
/-- a reserved address -/
def Rho.resv (ρ : Rho) (p : Addr) : Rho := ⟨ρ.hs, p :: ρ.rs⟩
def Rho.add (ρ : Rho) (p : Addr) : Rho := ⟨ρ.hs ++ [some p], ρ.rs⟩
theorem add_at {l : List (Option Addr)} {p a : Addr} {i : Nat} (e : (l ++ [some p])[i]? = some (some a)) : l[i]? = some (some a) ∨ (i = l.length ∧ a = p) := by
  by_cases hi : i < l.length
  · rw [List.getElem?_append_left hi] at e; exact .inl e
  · rw [List.getElem?_append_right (Nat.le_of_not_lt hi)] at e
    have : i - l.length = 0 := by
      have := (List.getElem?_eq_some_iff.mp e).1
      simp at this
      omega
    rw [this] at e
    simp at e
    exact .inr ⟨by omega, e.symm⟩
def Rho.cut (ρ : Rho) (rs : List Addr) : Rho := ⟨ρ.hs, rs⟩
theorem shift_cut {ρ : Rho} {rs : List Addr} (hs : ∀ a, a ∈ rs → a ∈ ρ.rs) : Shift ρ (ρ.cut rs) := ⟨fun a n => ⟨n.1, fun h => n.2 (hs a h)⟩, Nat.le_refl _, fun h hl => rfl⟩
theorem shift_add {ρ : Rho} {rs : List Addr} {p : Addr} (hs : ∀ a, a ∈ rs → a ∈ ρ.rs) (hp : p ∈ ρ.rs) : Shift ρ ((ρ.cut rs).add p) := ⟨fun a n => ⟨fun i e => by
    rcases add_at e with q | ⟨_, q⟩
    · exact n.1 i q
    · exact n.2 (by rw [q]; exact hp), fun h => n.2 (hs a h)⟩, by simp [Rho.cut, Rho.add], fun h hl => List.getElem?_append_left hl⟩
/-- p, new, is reserved -/
theorem resv_new {G : Gx} {H : Hp} {ρ : Rho} {μ : Mu} {p : Addr} {o : HO} (m : MuRep G H ρ μ) (h : H p = none) : Step G ρ H (ρ.resv p) (upd H p o) μ := by
  have k : ∀ b u, H b = some u → upd H p o b = some u := upd_all h
  have nl := m.fresh h
  have kk : Keep ρ H (upd H p o) := ⟨fun b u e _ _ => k b u e, fun b u e => ⟨u, k b u e⟩⟩
  have x : Ext ρ H (ρ.resv p) := ⟨Nat.le_refl _, fun _ _ e => .inl e, fun a e => by
    rcases List.mem_cons.mp e with q | q
    · exact .inr (by rw [q]; exact h)
    · exact .inl q, fun a e => List.mem_cons_of_mem _ e⟩
  refine ⟨x, kk, m.len, fun i mo e => ?_, m.dead, m.inj, fun a ha => ?_, fun P hP => ?_⟩
  · obtain ⟨a, e1, e2⟩ := m.at_ i mo e
    refine ⟨a, e1, ?_⟩
    cases mo with
    | lst ds => obtain ⟨vs, h1, h2⟩ := e2; exact ⟨vs, k _ _ h1, DReps.step x kk ds vs h2⟩
    | ins c fs => obtain ⟨C, dx, vs, h0, h1, h2, h3⟩ := e2; exact ⟨C, dx, vs, h0, k _ _ h1, h2, DReps.step x kk _ vs h3⟩
    | dic ks ds => obtain ⟨vs, h1, h2, h3⟩ := e2; exact ⟨vs, k _ _ h1, h2, DReps.step x kk ds vs h3⟩
    | dit ks ds => obtain ⟨vs, h1, h2, h3⟩ := e2; exact ⟨vs, k _ _ h1, h2, DReps.step x kk ds vs h3⟩
  · rcases List.mem_cons.mp ha with q | q
    · rw [q]; exact ⟨⟨o, upd_same⟩, nl.1⟩
    · obtain ⟨⟨u, h1⟩, h2⟩ := m.res a q; exact ⟨⟨u, k a u h1⟩, h2⟩
  · obtain ⟨ps, h1, h2⟩ := m.tb P hP
    exact ⟨ps, k _ _ h1, h2⟩
/-- the reserved list lives from now on -/
theorem resv_live {G : Gx} {H : Hp} {ρ : Rho} {μ : Mu} {p : Addr} {rs : List Addr} {vs : List V} {ds : List D} (m : MuRep G H ρ μ) (hin : p ∈ ρ.rs) (hs : ∀ a, a ∈ rs → a ∈ ρ.rs) (h : H p = some (.lst vs)) (hp : p ∉ rs) (r : DReps G.K H ρ vs ds) :
    MuRep G H ((ρ.cut rs).add p) (μ ++ [some (.lst ds)]) ∧ DRep G.K H ((ρ.cut rs).add p) (.ref p) (.mref μ.length) := by
  have hl : ρ.hs.length = μ.length := m.len
  have np : NotHd ρ p := (m.res p hin).2
  refine ⟨⟨by simp [Rho.add, Rho.cut, hl], fun i mo e => ?_, fun i a e => ?_, fun i j a e1 e2 => ?_, fun a ha => ?_, m.tb⟩, .mref (by simp [Rho.add, Rho.cut, hl]) fun a' e => ?_⟩
  · by_cases hi : i < μ.length
    · rw [List.getElem?_append_left hi] at e
      obtain ⟨a, e1, e2⟩ := m.at_ i mo e
      exact ⟨a, by show (ρ.hs ++ [some p])[i]? = _; rw [List.getElem?_append_left (by rw [hl]; exact hi)]; exact e1, MORep.shift (shift_add hs hin) e2⟩
    · rw [List.getElem?_append_right (Nat.le_of_not_lt hi)] at e
      have : i - μ.length = 0 := by
        have := (List.getElem?_eq_some_iff.mp e).1
        simp at this
        omega
      rw [this] at e
      simp at e
      subst e
      refine ⟨p, ?_, vs, h, DReps.shift (shift_add hs hin) ds vs r⟩
      have hi' : i = ρ.hs.length := by omega
      show (ρ.hs ++ [some p])[i]? = _
      rw [hi', List.getElem?_append_right (Nat.le_refl _)]
      simp
  · rcases add_at e with q | ⟨q1, q2⟩
    · obtain ⟨mo, e1⟩ := m.dead i a q
      exact ⟨mo, by rw [List.getElem?_append_left (List.getElem?_eq_some_iff.mp e1).1]; exact e1⟩
    · refine ⟨.lst ds, ?_⟩
      have q1 : i = ρ.hs.length := q1
      rw [q1, hl, List.getElem?_append_right (Nat.le_refl _)]
      simp
  · rcases add_at e1 with q | ⟨q1, q2⟩
    · rcases add_at e2 with q' | ⟨q1', q2'⟩
      · exact m.inj i j a q q'
      · rw [q2'] at q; exact absurd q (np i)
    · rcases add_at e2 with q' | ⟨q1', q2'⟩
      · rw [q2] at q'; exact absurd q' (np j)
      · omega
  · have ha : a ∈ rs := ha
    obtain ⟨h1, h2⟩ := m.res a (hs a ha)
    refine ⟨h1, fun i e => ?_⟩
    rcases add_at e with q | ⟨_, q⟩
    · exact h2 i q
    · rw [q] at ha; exact hp ha
  · have e : (ρ.hs ++ [some p])[μ.length]? = some (some a') := e
    rw [← hl, List.getElem?_append_right (Nat.le_refl _)] at e
    simp at e
    exact e.symm
/-- the reserved list is data from now on -/
theorem resv_data {G : Gx} {H : Hp} {ρ : Rho} {μ : Mu} {p : Addr} {rs : List Addr} {vs : List V} {ds : List D} (m : MuRep G H ρ μ) (hin : p ∈ ρ.rs) (hs : ∀ a, a ∈ rs → a ∈ ρ.rs) (h : H p = some (.lst vs)) (hp : p ∉ rs) (r : DReps G.K H ρ vs ds) :
    MuRep G H (ρ.cut rs) μ ∧ DRep G.K H (ρ.cut rs) (.ref p) (.lst ds) :=
  ⟨⟨m.len, fun i mo e => let ⟨a, e1, e2⟩ := m.at_ i mo e; ⟨a, e1, MORep.shift (shift_cut hs) e2⟩, m.dead, m.inj, fun a ha => m.res a (hs a ha), m.tb⟩, .lst ⟨.inl h, (m.res p hin).2, hp⟩ (DReps.shift (shift_cut hs) ds vs r)⟩
/-- a reserved object changes -/
theorem NotLive.ne {ρ : Rho} {a p : Addr} (n : NotLive ρ a) (hp : p ∈ ρ.rs) : a ≠ p := fun e => n.2 (by rw [e]; exact hp)
theorem Rd.upd {H : Hp} {a p : Addr} {o u : HO} (h : Rd H a u) (n : a ≠ p) : Rd (upd H p o) a u := by
  rcases h with h | ⟨q, h⟩
  · exact .inl (by rw [upd_ne n]; exact h)
  · exact .inr ⟨q, by rw [upd_ne n]; exact h⟩
theorem StT.upd {H : Hp} {a p : Addr} {o : HO} {xs : List V} (h : StT H a xs) (n : a ≠ p) : StT (L2.upd H p o) a xs := let ⟨ob, e, d⟩ := h; ⟨ob, by rw [upd_ne n]; exact e, d⟩
mutual
theorem DRep.updr {K : PySem.W.Frag} {H : Hp} {ρ : Rho} {p : Addr} {o : HO} (hp : p ∈ ρ.rs) : ∀ (d : D) (v : V), DRep K H ρ v d → DRep K (upd H p o) ρ v d
  | .non, _, r => by cases r; exact .non
  | .bl b, _, r => by cases r; exact .bl b
  | .int i, _, r => by cases r; exact .int i
  | .str x, _, r => by cases r; exact .str x
  | .lst ds, _, r => by cases r with | lst h rs => exact .lst ⟨Rd.upd h.1 (h.2.ne hp), h.2⟩ (DReps.updr hp ds _ rs)
  | .tup ds, _, r => by cases r with | tup h rs => exact .tup (h.elim (fun z => .inl ⟨StT.upd z.1 (z.2.ne hp), z.2⟩) .inr) (DReps.updr hp ds _ rs)
  | .wtup ds, _, r => by cases r with | wtup h rs => exact .wtup ⟨Rd.upd h.1 (h.2.ne hp), h.2⟩ (DReps.updr hp ds _ rs)
  | .mref h, _, r => by cases r with | mref h1 h2 => exact .mref h1 h2
  | .dic ks ds, _, r => by cases r with | dic h n l rs => exact .dic (by rw [upd_ne (n.ne hp)]; exact h) n l (DReps.updr hp ds _ rs)
theorem DReps.updr {K : PySem.W.Frag} {H : Hp} {ρ : Rho} {p : Addr} {o : HO} (hp : p ∈ ρ.rs) : ∀ (ds : List D) (vs : List V), DReps K H ρ vs ds → DReps K (upd H p o) ρ vs ds
  | [], _, r => by cases r; exact .nil
  | d :: ds, _, r => by cases r with | cons a b => exact .cons (DRep.updr hp d _ a) (DReps.updr hp ds _ b)
end
theorem MuRep.updr {G : Gx} {H : Hp} {ρ : Rho} {μ : Mu} {p : Addr} {xs ys : List V} (m : MuRep G H ρ μ) (hp : p ∈ ρ.rs) (h : H p = some (.lst xs)) : MuRep G (upd H p (.lst ys)) ρ μ := by
  have nh := (m.res p hp).2
  refine ⟨m.len, fun i mo e => ?_, m.dead, m.inj, fun a ha => ?_, fun P hP => ?_⟩
  · obtain ⟨a, e1, e2⟩ := m.at_ i mo e
    have ne : a ≠ p := fun z => nh i (by rw [← z]; exact e1)
    refine ⟨a, e1, ?_⟩
    cases mo with
    | lst ds => obtain ⟨vs, h1, h2⟩ := e2; exact ⟨vs, by rw [upd_ne ne]; exact h1, DReps.updr hp ds vs h2⟩
    | ins c fs => obtain ⟨C, dx, vs, h0, h1, h2, h3⟩ := e2; exact ⟨C, dx, vs, h0, by rw [upd_ne ne]; exact h1, h2, DReps.updr hp _ vs h3⟩
    | dic ks ds => obtain ⟨vs, h1, h2, h3⟩ := e2; exact ⟨vs, by rw [upd_ne ne]; exact h1, h2, DReps.updr hp ds vs h3⟩
    | dit ks ds => obtain ⟨vs, h1, h2, h3⟩ := e2; exact ⟨vs, by rw [upd_ne ne]; exact h1, h2, DReps.updr hp ds vs h3⟩
  · obtain ⟨⟨o, h1⟩, h2⟩ := m.res a ha
    by_cases e : a = p
    · exact ⟨⟨_, by rw [e]; exact upd_same⟩, h2⟩
    · exact ⟨⟨o, by rw [upd_ne e]; exact h1⟩, h2⟩
  · obtain ⟨ps, h1, h2⟩ := m.tb P hP
    exact ⟨ps, by rw [upd_ne (ne_of h1 h (fun z => by cases z))]; exact h1, h2⟩
/-- a new object that lives -/
theorem new_mut {G : Gx} {H : Hp} {ρ : Rho} {μ : Mu} {p : Addr} {vs : List V} {ds : List D} (m : MuRep G H ρ μ) (h : H p = none) (r : DReps G.K H ρ vs ds) :
    Step G ρ H (ρ.add p) (upd H p (.lst vs)) (μ ++ [some (.lst ds)]) ∧ DRep G.K (upd H p (.lst vs)) (ρ.add p) (.ref p) (.mref μ.length) := by
  have s := resv_new (o := .lst vs) m h
  obtain ⟨m2, q⟩ := resv_live (rs := ρ.rs) (vs := vs) (ds := ds) s.mu List.mem_cons_self (fun a ha => List.mem_cons_of_mem _ ha) upd_same (m.fresh h).2 (DReps.step s.ext s.keep ds vs r)
  refine ⟨⟨⟨by simp [Rho.add], fun i a e => ?_, fun a e => .inl e, fun a e => e⟩, s.keep, m2⟩, q⟩
  rcases add_at e with q | ⟨q1, q2⟩
  · exact .inl q
  · exact .inr ⟨by omega, by rw [q2]; exact h⟩
theorem Cfg.newM {G : Gx} {W : Value → Option Addr → Hp → Prop} {ρ : Rho} {H : Hp} {ds : List D} {vs : List V} {Q : VK} (h : Cfg G (rV G.K) W ρ H (oMut ds) Q) (r : DReps G.K H ρ vs ds) : ds.length ≤ sizeLine ∧ ∀ p, H p = none → Q (.ref p) (upd H p (.lst vs)) := by
  obtain ⟨μ, q, μ', hm, hc, he⟩ := h
  unfold oMut at hc
  by_cases hl : ds.length ≤ sizeLine
  · rw [if_pos hl] at hc
    simp only [Option.some.injEq, Prod.mk.injEq] at hc
    obtain ⟨rfl, rfl⟩ := hc
    refine ⟨hl, fun p hp => ?_⟩
    obtain ⟨s, d⟩ := new_mut hm hp r
    exact he _ _ _ s d
  · rw [if_neg hl] at hc; cases hc
section
variable {X : Cx} {tb : Addr → Prop} {W : WX} {pos : Pos}
theorem de_lstM {es : List Expr} {fs : Sl → Cm (List D)} (ha : PE X (.List es pos) (tLst (rd (gx X tb) (rVs X.K) W fs))) : DE X tb W (.List es pos) (eCB oMut fs) :=
  ha.imp fun σ H Q ⟨sl, ρ, hs, hc⟩ => ⟨sl, ρ, hs, (Cfg.bind (Rq := rVs X.K) hc).imp fun vs H1 ⟨ρ1, ds, rs, x, k, c⟩ => by
    obtain ⟨h1, h2⟩ := c.newM rs
    exact ⟨by rw [rs.length]; exact h1, h2⟩⟩
end
end DL

namespace DL
open PySem PySem.Spec PyProof.Rows L2
/-! ## the lists and sequences that a value stands for -/
def dL (μ : Mu) : D → Option (List D)
  | .lst xs => some xs
  | .mref h => match μ[h]? with
    | some (some (.lst xs)) => some xs
    | _ => none
  | _ => none
def dLT (μ : Mu) : D → Option (List D)
  | .tup xs => some xs
  | d => dL μ d
theorem mref_l {μ : Mu} {h : Nat} {xs : List D} (e : dL μ (.mref h) = some xs) : μ[h]? = some (some (.lst xs)) := by
  have e : (match μ[h]? with | some (some (.lst xs)) => some xs | _ => none) = some xs := e
  cases q : μ[h]? with
  | none => rw [q] at e; cases e
  | some o =>
    cases o with
    | none => rw [q] at e; cases e
    | some mo =>
      cases mo with
      | lst ds => rw [q] at e; cases e; rfl
      | ins c fs => rw [q] at e; cases e
      | dic ks ds => rw [q] at e; cases e
      | dit ks ds => rw [q] at e; cases e
theorem MuRep.dL {G : Gx} {H : Hp} {ρ : Rho} {μ : Mu} (m : MuRep G H ρ μ) {v : V} {d : D} {xs : List D} (r : DRep G.K H ρ v d) (e : dL μ d = some xs) : ∃ a vs, v = .ref a ∧ Rd H a (.lst vs) ∧ DReps G.K H ρ vs xs := by
  cases d with
  | lst ds => cases r with | lst i rs => cases e; exact ⟨_, _, rfl, i.1, rs⟩
  | mref h =>
    obtain ⟨a, vs, e1, _, e2, e3⟩ := m.lst r (mref_l e)
    exact ⟨a, vs, e1, .inl e2, e3⟩
  | _ => cases e
theorem MuRep.dLT {G : Gx} {H : Hp} {ρ : Rho} {μ : Mu} (m : MuRep G H ρ μ) {v : V} {d : D} {xs : List D} (r : DRep G.K H ρ v d) (e : dLT μ d = some xs) : ∃ a vs, v = .ref a ∧ (SqL G.K H a vs ∨ SqT G.K H a vs) ∧ DReps G.K H ρ vs xs := by
  cases d with
  | tup ds => cases r with | tup i rs => cases e; exact ⟨_, _, rfl, .inr i.seq, rs⟩
  | lst ds => cases r with | lst i rs => cases e; exact ⟨_, _, rfl, .inl i.seq, rs⟩
  | mref h =>
    obtain ⟨a, vs, e1, _, e2, e3⟩ := m.lst r (mref_l e)
    exact ⟨a, vs, e1, .inl (.inl (.inl e2)), e3⟩
  | _ => cases e
/-- a computation that only looks at the living things -/
def Cm.look {α : Type} (f : Mu → Option α) : Cm α := fun μ => match f μ with
  | some a => some (.ok a, μ)
  | none => none
theorem Cfg.look {G : Gx} {α β : Type} {Rp : Rel α β} {W : Value → Option Addr → Hp → Prop} {ρ : Rho} {H : Hp} {f : Mu → Option β} {Q : α → Hp → Prop} (h : Cfg G Rp W ρ H (Cm.look f) Q) : ∃ μ d, MuRep G H ρ μ ∧ f μ = some d ∧ Cfg G Rp W ρ H (Cm.ok d) Q := by
  obtain ⟨μ, r, μ', hm, hc, he⟩ := h
  unfold Cm.look at hc
  cases e : f μ with
  | none => rw [e] at hc; cases hc
  | some d => rw [e] at hc; exact ⟨μ, d, hm, e, μ, r, μ', hm, hc, he⟩
/-! ## + -/
def oAdd (x y : D) : Cm D := match x, y with
  | .int i, .int j => Cm.ok (.int (i + j))
  | .str a, .str b => if a.length + b.length ≤ sizeLine then Cm.ok (.str (a ++ b)) else Cm.fail
  | .tup xs, .tup ys => if xs ≠ [] ∧ xs.length + ys.length ≤ sizeLine then Cm.ok (.tup (xs ++ ys)) else Cm.fail
  | x, y => Cm.look fun μ => (dL μ x).bind fun xs => (dL μ y).bind fun ys => if xs.length + ys.length ≤ sizeLine then some (.lst (xs ++ ys)) else none
def rCatR : R2 := fun x y H Q => ∃ l b xs zs, x = .ref l ∧ y = .ref b ∧ Rd H l (.lst xs) ∧ Rd H b (.lst zs) ∧ xs.length + zs.length ≤ sizeLine ∧ ∀ p, H p = none → Q (.ref p) (upd H p (.lst (xs ++ zs)))
section
variable {X : Cx} {tb : Addr → Prop} {W : WX} {pos : Pos}
theorem op_catR : OpR X (binaryOp .Add) rCatR := by
  intro pins s σ H x y v u Q I rx ry h
  obtain ⟨l, b, xs, zs, rfl, rfl, hH, hB, hz, q⟩ := h
  cases rx
  cases ry
  obtain ⟨z, its, n, r, e⟩ := hH.ok I.hok
  obtain ⟨z2, its2, n2, r2, e2⟩ := hB.ok I.hok
  have hl := r.length
  have hl2 := r2.length
  refine PySem.P.add_list e e2 ?_ (by rw [List.size_toArray, List.size_toArray]; omega)
  have ea : its.toArray ++ its2.toArray = (its ++ its2).toArray := by simp
  rw [ea]
  exact ⟨.ref _, _, I.lnew (t' := s.toks) (r.append r2) (by rw [List.length_append]; omega), rfl, q _ I.fresh⟩
def rAddD (K : PySem.W.Frag) : R2 := fun x y H Q => (rI0 (fun i j => .int (i + j)) x y H Q ∨ (∃ i j, x = .str i ∧ y = .str j ∧ i.length + j.length ≤ sizeLine ∧ Q (.str (i ++ j)) H)) ∨ (rCatR x y H Q ∨ rCatTS K x y H Q)
theorem op_addD : OpR X (binaryOp .Add) (rAddD X.K) := OpR.or (OpR.or op_add op_add_str) (OpR.or op_catR op_catTS)
theorem sem_add {G : Gx} : Sem2 G oAdd (rAddD G.K) := by
  intro W ρ H x y dx dy Q rx ry c
  have lst : ∀ dx dy, DRep G.K H ρ x dx → DRep G.K H ρ y dy → Cfg G (rV G.K) W ρ H (Cm.look fun μ => (dL μ dx).bind fun xs => (dL μ dy).bind fun ys => if xs.length + ys.length ≤ sizeLine then some (.lst (xs ++ ys)) else none) Q → rAddD G.K x y H Q := by
    intro dx dy rx ry c
    obtain ⟨μ, d, hm, e, c⟩ := c.look
    cases e1 : dL μ dx with
    | none => rw [e1] at e; cases e
    | some xs =>
      cases e2 : dL μ dy with
      | none => rw [e1, e2] at e; cases e
      | some ys =>
        rw [e1, e2] at e
        obtain ⟨a, vs, rfl, h1, r1⟩ := hm.dL rx e1
        obtain ⟨b, ws, rfl, h2, r2⟩ := hm.dL ry e2
        have e : (if xs.length + ys.length ≤ sizeLine then some (D.lst (xs ++ ys)) else none) = some d := e
        by_cases hl : xs.length + ys.length ≤ sizeLine
        · rw [if_pos hl] at e
          cases e
          exact .inr (.inl ⟨a, b, vs, ws, rfl, rfl, h1, h2, by rw [r1.length, r2.length]; exact hl, c.newL (r1.append r2)⟩)
        · rw [if_neg hl] at e; cases e
  cases dx with
  | int i =>
    cases dy with
    | int j => cases rx; cases ry; exact .inl (.inl ⟨i, j, rfl, rfl, c.ok _ (.int _)⟩)
    | _ => exact lst _ _ rx ry c
  | str a =>
    cases dy with
    | str b =>
      cases rx; cases ry
      have c : Cfg G (rV G.K) W ρ H (if a.length + b.length ≤ sizeLine then Cm.ok (.str (a ++ b)) else Cm.fail) Q := c
      by_cases hl : a.length + b.length ≤ sizeLine
      · rw [if_pos hl] at c; exact .inl (.inr ⟨a, b, rfl, rfl, hl, c.ok _ (.str _)⟩)
      · rw [if_neg hl] at c; exact c.fails.elim
    | _ => exact lst _ _ rx ry c
  | tup xs =>
    cases dy with
    | tup ys =>
      have c : Cfg G (rV G.K) W ρ H (if xs ≠ [] ∧ xs.length + ys.length ≤ sizeLine then Cm.ok (.tup (xs ++ ys)) else Cm.fail) Q := c
      by_cases hl : xs ≠ [] ∧ xs.length + ys.length ≤ sizeLine
      · rw [if_pos hl] at c
        have rx' := rx
        cases rx with
        | @tup a vs ds i1 r1 =>
        cases ry with
        | @tup b ws es i2 r2 =>
        refine .inr (.inr ⟨a, b, vs, ws, rfl, rfl, i1.seq, i2.seq, fun z => ?_, by rw [r1.length, r2.length]; exact hl.2, fun z => ?_, fun z => c.newT (r1.append r2)⟩)
        · rw [z] at r1; cases r1; exact hl.1 rfl
        · rw [z] at r2
          cases r2
          rw [List.append_nil] at c
          exact c.ok _ rx'
      · rw [if_neg hl] at c; exact c.fails.elim
    | _ => exact lst _ _ rx ry c
  | non => cases dy <;> exact lst _ _ rx ry c
  | bl b => cases dy <;> exact lst _ _ rx ry c
  | lst xs => cases dy <;> exact lst _ _ rx ry c
  | wtup xs => cases dy <;> exact lst _ _ rx ry c
  | mref h => cases dy <;> exact lst _ _ rx ry c
  | dic a b => cases dy <;> exact lst _ _ rx ry c
theorem de_add {a b : Expr} {fa fb : Sl → Cm D} (ha : DE X tb W a fa) (hb : DE X tb W b fb) : DE X tb W (.BinOp a .Add b pos) (eOp2 oAdd fa fb) := de_op op_addD sem_add ha hb
/-! ## - * // % ** of ints -/
def oI2 (C : Int → Int → Prop) [∀ i j, Decidable (C i j)] (g : Int → Int → D) (x y : D) : Cm D := match x, y with
  | .int i, .int j => if C i j then Cm.ok (g i j) else Cm.fail
  | _, _ => Cm.fail
theorem sem_i2 {G : Gx} {C C' : Int → Int → Prop} [∀ i j, Decidable (C i j)] {g : Int → Int → D} {gv : Int → Int → V} (hC : ∀ i j, C i j → C' i j) (hg : ∀ i j H ρ, DRep G.K H ρ (gv i j) (g i j)) : Sem2 G (oI2 C g) (rI C' gv) := by
  intro W ρ H x y dx dy Q rx ry c
  cases dx with
  | int i =>
    cases dy with
    | int j =>
      cases rx; cases ry
      have c : Cfg G (rV G.K) W ρ H (if C i j then Cm.ok (g i j) else Cm.fail) Q := c
      by_cases h : C i j
      · rw [if_pos h] at c; exact ⟨i, j, rfl, rfl, hC i j h, c.ok _ (hg i j _ _)⟩
      · rw [if_neg h] at c; exact c.fails.elim
    | _ => exact c.fails.elim
  | _ => exact c.fails.elim
theorem op_rI0 {f : Value → Value → Sem Value} {g : Int → Int → V} (h : OpR X f (rI0 g)) : OpR X f (rI (fun _ _ => True) g) := fun pins s σ H x y v u Q I rx ry ⟨i, j, e1, e2, _, q⟩ => h pins s σ H x y v u Q I rx ry ⟨i, j, e1, e2, q⟩
abbrev oSub : D → D → Cm D := oI2 (fun _ _ => True) fun i j => .int (i - j)
theorem de_sub {a b : Expr} {fa fb : Sl → Cm D} (ha : DE X tb W a fa) (hb : DE X tb W b fb) : DE X tb W (.BinOp a .Sub b pos) (eOp2 oSub fa fb) := de_op (op_rI0 op_sub) (sem_i2 (fun _ _ h => h) fun _ _ _ _ => .int _) ha hb
abbrev oFdiv : D → D → Cm D := oI2 (fun _ j => 0 < j ∧ j.natAbs.log2 < 9000) fun i j => .int (i / j)
theorem de_fdiv {a b : Expr} {fa fb : Sl → Cm D} (ha : DE X tb W a fa) (hb : DE X tb W b fb) : DE X tb W (.BinOp a .FloorDiv b pos) (eOp2 oFdiv fa fb) := de_op op_fdivW (sem_i2 (fun _ _ h => h) fun _ _ _ _ => .int _) ha hb
abbrev oMod : D → D → Cm D := oI2 (fun _ j => 0 < j) fun i j => .int (i % j)
theorem de_mod {a b : Expr} {fa fb : Sl → Cm D} (ha : DE X tb W a fa) (hb : DE X tb W b fb) : DE X tb W (.BinOp a .Mod b pos) (eOp2 oMod fa fb) := de_op op_mod (sem_i2 (fun _ _ h => h) fun _ _ _ _ => .int _) ha hb
abbrev oPow : D → D → Cm D := oI2 (fun i j => 0 ≤ j ∧ j ≤ 1000000 ∧ i.natAbs < 2 ^ 64) fun i j => .int (i ^ j.toNat)
theorem de_pow {a b : Expr} {fa fb : Sl → Cm D} (ha : DE X tb W a fa) (hb : DE X tb W b fb) : DE X tb W (.BinOp a .Pow b pos) (eOp2 oPow fa fb) := de_op op_pow (sem_i2 (fun _ _ h => h) fun _ _ _ _ => .int _) ha hb
def oNeg (x : D) : Cm D := match x with | .int i => Cm.ok (.int (-i)) | _ => Cm.fail
theorem de_neg {a : Expr} {fa : Sl → Cm D} (ha : DE X tb W a fa) : DE X tb W (.UnaryOp .USub a pos) (eUn oNeg fa) := de_un un_neg (by
  intro W ρ H x dx Q rx c
  cases dx with
  | int i => cases rx; exact ⟨i, rfl, c.ok _ (.int _)⟩
  | _ => exact c.fails.elim) ha
/-- * : ints, a text or a list times an int -/
def oMul (x y : D) : Cm D := match x, y with
  | .int i, .int j => if i.natAbs.log2 + j.natAbs.log2 < 1000000 then Cm.ok (.int (i * j)) else Cm.fail
  | .str a, .int n => if 0 ≤ n ∧ n ≤ 16777216 ∧ a.length * n.toNat ≤ 16777216 then Cm.ok (.str (PySem.Txt.mul a n)) else Cm.fail
  | _, _ => Cm.fail
def rMulD : R2 := fun x y H Q => rI CMulW (fun i j => .int (i * j)) x y H Q ∨ (∃ (a : Str) (n : Int), x = .str a ∧ y = .int n ∧ PySem.MulOk a n ∧ Q (.str (PySem.Txt.mul a n)) H)
theorem op_mul_str : OpR X (binaryOp .Mult) (fun x y H Q => ∃ (a : Str) (n : Int), x = .str a ∧ y = .int n ∧ PySem.MulOk a n ∧ Q (.str (PySem.Txt.mul a n)) H) := by
  intro pins s σ H x y v u Q I rx ry h
  obtain ⟨a, n, rfl, rfl, hk, q⟩ := h
  obtain ⟨t, rfl⟩ := rx
  obtain ⟨t', rfl⟩ := ry
  exact PySem.SB.mul hk fun t' k => ⟨.str _, H, I.tok k, ⟨_, rfl⟩, q⟩
theorem op_mulD : OpR X (binaryOp .Mult) rMulD := OpR.or op_mulW op_mul_str
theorem sem_mul {G : Gx} : Sem2 G oMul rMulD := by
  intro W ρ H x y dx dy Q rx ry c
  cases dx with
  | int i =>
    cases dy with
    | int j =>
      cases rx; cases ry
      have c : Cfg G (rV G.K) W ρ H (if i.natAbs.log2 + j.natAbs.log2 < 1000000 then Cm.ok (.int (i * j)) else Cm.fail) Q := c
      by_cases h : i.natAbs.log2 + j.natAbs.log2 < 1000000
      · rw [if_pos h] at c; exact .inl ⟨i, j, rfl, rfl, h, c.ok _ (.int _)⟩
      · rw [if_neg h] at c; exact c.fails.elim
    | _ => exact c.fails.elim
  | str a =>
    cases dy with
    | int n =>
      cases rx; cases ry
      have c : Cfg G (rV G.K) W ρ H (if 0 ≤ n ∧ n ≤ 16777216 ∧ a.length * n.toNat ≤ 16777216 then Cm.ok (.str (PySem.Txt.mul a n)) else Cm.fail) Q := c
      by_cases h : 0 ≤ n ∧ n ≤ 16777216 ∧ a.length * n.toNat ≤ 16777216
      · rw [if_pos h] at c
        exact .inr ⟨a, n, rfl, rfl, PyProof.Rows.mulOk_of a.length n.toNat (Nat.le_refl _) (by omega) (by omega) (by omega) h.2.2, c.ok _ (.str _)⟩
      · rw [if_neg h] at c; exact c.fails.elim
    | _ => exact c.fails.elim
  | _ => exact c.fails.elim
theorem de_mul {a b : Expr} {fa fb : Sl → Cm D} (ha : DE X tb W a fa) (hb : DE X tb W b fb) : DE X tb W (.BinOp a .Mult b pos) (eOp2 oMul fa fb) := de_op op_mulD sem_mul ha hb
theorem reps_flat {K : PySem.W.Frag} {H : Hp} {ρ : Rho} {vs : List V} {ds : List D} (r : DReps K H ρ vs ds) : ∀ n, DReps K H ρ (List.replicate n vs).flatten (List.replicate n ds).flatten
  | 0 => .nil
  | n + 1 => by
    rw [List.replicate_succ, List.replicate_succ, List.flatten_cons, List.flatten_cons]
    exact r.append (reps_flat r n)
end
theorem Cfg.frame {G : Gx} {α β : Type} {Rp : Rel α β} {W : Value → Option Addr → Hp → Prop} {ρ ρ' : Rho} {H H' : Hp} {c : Cm β} {Q : α → Hp → Prop} (h : Cfg G Rp W ρ H c Q) (k : ∀ μ, MuRep G H ρ μ → Step G ρ H ρ' H' μ) : Cfg G Rp W ρ' H' c Q := by
  obtain ⟨μ, r, μ', hm, hc, he⟩ := h
  have st := k μ hm
  refine ⟨μ, r, μ', st.mu, hc, ?_⟩
  cases r with
  | ok d => exact fun v H2 ρ2 st2 r2 => he v H2 ρ2 (st.trans st2) r2
  | ex x => exact fun cls dd H2 ρ2 st2 r2 => he cls dd H2 ρ2 (st.trans st2) r2
section
variable {X : Cx} {tb : Addr → Prop} {W : WX} {pos : Pos}
/-- [..] * n -/
def eRep (mk : List D → Cm D) (fs : Sl → Cm (List D)) (fb : Sl → Cm D) : Sl → Cm D := fun sl => (fs sl).bind fun ds => if ds.length ≤ 1000 then (fb sl).bind fun k => match k with
    | .int k => if -(2 ^ 63) ≤ k ∧ k < 2 ^ 63 ∧ ds.length * k.toNat ≤ sizeLine then mk (List.replicate k.toNat ds).flatten else Cm.fail
    | _ => Cm.fail
  else Cm.fail
abbrev MkL (G : Gx) (mk : List D → Cm D) : Prop := ∀ (W : Value → Option Addr → Hp → Prop) ρ H vs ds Q, DReps G.K H ρ vs ds → Cfg G (rV G.K) W ρ H (mk ds) Q → ∀ p, H p = none → Q (.ref p) (upd H p (.lst vs))
def oLs (ds : List D) : Cm D := Cm.ok (.lst ds)
theorem mk_ls {G : Gx} : MkL G oLs := fun W ρ H vs ds Q r c => Cfg.newL c r
theorem mk_mut {G : Gx} : MkL G oMut := fun W ρ H vs ds Q r c => (Cfg.newM c r).2
theorem de_rep {es : List Expr} {b : Expr} {p : Pos} {mk : List D → Cm D} {fs : Sl → Cm (List D)} {fb : Sl → Cm D} (hmk : MkL (gx X tb) mk)
    (ha : DA X tb W es fs) (hb : DE X tb W b fb) (hl : PE X (.List es p) (tLst (rd (gx X tb) (rVs X.K) W fs))) : DE X tb W (.BinOp (.List es p) .Mult b pos) (eRep mk fs fb) :=
  (pe_op op_rep hl hb).imp fun σ H Q ⟨sl, ρ, hs, hc⟩ => by
    refine ⟨sl, ρ, hs, (Cfg.bind (Rq := rVs X.K) hc).imp fun vs H1 ⟨ρ1, ds, rs, x, k, c⟩ => ?_⟩
    by_cases hd : ds.length ≤ 1000
    · rw [if_pos hd] at c
      refine ⟨by rw [rs.length, sizeLine_eq]; omega, fun p1 hp1 => ?_⟩
      obtain ⟨μ0, _, _, hm0, _⟩ := id c
      have nl : NotHd ρ1 p1 := (hm0.fresh hp1).1
      have c := c.frame (H' := upd H1 p1 (.lst vs)) (ρ' := ρ1) fun μ hm => (new_lst hm hp1 rs).1
      have k1 : Keep ρ1 H1 (upd H1 p1 (.lst vs)) := ⟨fun b o e _ _ => upd_all hp1 b o e, fun b o e => ⟨o, upd_all hp1 b o e⟩⟩
      refine ⟨sl, ρ1, (hs.step x k).step (.refl _ _) k1, (Cfg.bind (Rq := rV X.K) c).imp fun v H2 ⟨ρ2, dk, rk, x2, k2, c2⟩ => ?_⟩
      cases dk with
      | int n =>
        cases rk
        have c2 : Cfg (gx X tb) (rV X.K) (fun c d H' => W c d σ H') ρ2 H2 (if -(2 ^ 63) ≤ n ∧ n < 2 ^ 63 ∧ ds.length * n.toNat ≤ sizeLine then mk (List.replicate n.toNat ds).flatten else Cm.fail) Q := c2
        by_cases h : -(2 ^ 63) ≤ n ∧ n < 2 ^ 63 ∧ ds.length * n.toNat ≤ sizeLine
        · rw [if_pos h] at c2
          refine ⟨p1, n, vs, rfl, rfl, k2.keep p1 _ upd_same nl trivial, h.1, h.2.1, by rw [rs.length]; exact h.2.2, hmk _ ρ2 H2 _ _ Q (reps_flat (DReps.step x2 k2 ds vs (DReps.step (.refl _ _) k1 ds vs rs)) n.toNat) c2⟩
        · rw [if_neg h] at c2; exact c2.fails.elim
      | _ => exact c2.fails.elim
    · rw [if_neg hd] at c; exact c.fails.elim
/-! ## comparisons -/
abbrev oCi (p : Int → Int → Bool) : D → D → Cm D := oI2 (fun _ _ => True) fun i j => .bl (p i j)
abbrev oLt := oCi fun i j => decide (i < j)
abbrev oLe := oCi fun i j => decide (i ≤ j)
abbrev oGt := oCi fun i j => decide (j < i)
abbrev oGe := oCi fun i j => decide (j ≤ i)
theorem sem_ci {G : Gx} {p : Int → Int → Bool} : Sem2 G (oCi p) (rI (fun _ _ => True) fun i j => .bl (p i j)) := sem_i2 (fun _ _ h => h) fun _ _ _ _ => .bl _
theorem opLt : OpR X (compareOp .Lt) (rI (fun _ _ => True) fun i j => .bl (decide (i < j))) := op_rI0 op_lt
theorem opLe : OpR X (compareOp .LtE) (rI (fun _ _ => True) fun i j => .bl (decide (i ≤ j))) := op_rI0 op_le
theorem opGt : OpR X (compareOp .Gt) (rI (fun _ _ => True) fun i j => .bl (decide (j < i))) := op_rI0 op_gt
theorem opGe : OpR X (compareOp .GtE) (rI (fun _ _ => True) fun i j => .bl (decide (j ≤ i))) := op_rI0 op_ge
/-- a op b op c -/
def eChain (o o' : D → D → Cm D) (fa fb fc : Sl → Cm D) : Sl → Cm D := fun sl => (fa sl).bind fun x => (fb sl).bind fun y => (o x y).bind fun z => match z with
  | .bl true => (fc sl).bind fun w => o' y w
  | .bl false => Cm.ok (.bl false)
  | _ => Cm.fail
theorem rd_chain {a b c : Expr} {op op' : CmpOp} {r r' : R2} {o o' : D → D → Cm D} {fa fb fc : Sl → Cm D} {σ : L2.St} {H : Hp} {Q : VK} (sem : ∀ (W : Value → Option Addr → Hp → Prop) ρ H x y dx dy (Q : VK), DRep X.K H ρ x dx → DRep X.K H ρ y dy → Cfg (gx X tb) (rV X.K) W ρ H (o dx dy) Q → r x y H Q) (sem' : Sem2 (gx X tb) o' r')
    (h : rd (gx X tb) (rV X.K) W (eChain o o' fa fb fc) σ H Q) : tChain r r' (rd (gx X tb) (rV X.K) W fa) (rd (gx X tb) (rV X.K) W fb) (rd (gx X tb) (rV X.K) W fc) σ H Q := by
  obtain ⟨sl, ρ, hs, hc⟩ := h
  refine ⟨sl, ρ, hs, (Cfg.bind (Rq := rV X.K) hc).imp fun v H1 ⟨ρ1, dx, rx, x1, k1, c1⟩ => ?_⟩
  refine ⟨sl, ρ1, hs.step x1 k1, (Cfg.bind (Rq := rV X.K) c1).imp fun u H2 ⟨ρ2, dy, ry, x2, k2, c2⟩ => ?_⟩
  refine sem _ ρ2 H2 v u dx dy _ (DRep.step x2 k2 dx v rx) ry ((Cfg.bind (Rq := rV X.K) c2).imp fun z H3 ⟨ρ3, dz, rz, x3, k3, c3⟩ => ?_)
  cases dz with
  | bl b =>
    cases rz
    refine ⟨b, rfl, ?_⟩
    cases b with
    | true =>
      rw [if_pos rfl]
      exact ⟨sl, ρ3, ((hs.step x1 k1).step x2 k2).step x3 k3, (Cfg.bind (Rq := rV X.K) c3).imp fun w H4 ⟨ρ4, dw, rw', x4, k4, c4⟩ =>
        sem' _ ρ4 H4 u w dy dw Q (DRep.step x4 k4 dy u (DRep.step x3 k3 dy u ry)) rw' c4⟩
    | false =>
      rw [if_neg Bool.false_ne_true]
      have c3 : Cfg (gx X tb) (rV X.K) (fun c d H' => W c d σ H') ρ3 H3 (Cm.ok (.bl false)) Q := c3
      exact c3.ok _ (.bl _)
  | _ => exact c3.fails.elim
theorem de_chain {a b c : Expr} {op op' : CmpOp} {r r' : R2} {o o' : D → D → Cm D} {fa fb fc : Sl → Cm D} (ho : OpR X (compareOp op) r) (ho' : OpR X (compareOp op') r') (sem : Sem2 (gx X tb) o r) (sem' : Sem2 (gx X tb) o' r') (ha : DE X tb W a fa) (hb : DE X tb W b fb) (hc : DE X tb W c fc)
    (hm : lastMarks [op, op'] [b, c] = false := by with_unfolding_all rfl) : DE X tb W (.Compare a [op, op'] [b, c] pos) (eChain o o' fa fb fc) := (pe_chain ho ho' ha hb hc hm).imp fun σ H Q h => rd_chain (a := a) (b := b) (c := c) (op := op) (op' := op') sem sem' h
theorem dt_chain {a b c : Expr} {op op' : CmpOp} {r r' : R2} {o o' : D → D → Cm D} {fa fb fc : Sl → Cm D} (ho : OpR X (compareOp op) r) (ho' : OpR X (compareOp op') r') (sem : Sem2 (gx X tb) o r) (sem' : Sem2 (gx X tb) o' r') (ha : DE X tb W a fa) (hb : DE X tb W b fb) (hc : DE X tb W c fc)
    (hm : lastMarks [op, op'] [b, c] = false := by with_unfolding_all rfl) : DT X tb W (.Compare a [op, op'] [b, c] pos) (tBl (eChain o o' fa fb fc)) := dt_val ((pt_chain ho ho' ha hb hc hm).imp fun σ H Q h => rd_chain (a := a) (b := b) (c := c) (op := op) (op' := op') sem sem' h)
end
end DL

namespace DL
open PySem PySem.Spec PyProof.Rows L2
/-! ## == of data -/
mutual
def pyC : D → Option PyData
  | .non => some .none
  | .bl b => some (.bool b)
  | .int i => some (.int i)
  | .str s => some (.str s)
  | .lst xs => (pyCs xs).map .list
  | .tup xs => (pyCs xs).map .tuple
  | .mref _ => none
  | .dic _ _ => none
  | .wtup _ => none
def pyCs : List D → Option (List PyData)
  | [] => some []
  | x :: xs => (pyC x).bind fun p => (pyCs xs).map fun ps => p :: ps
end
mutual
theorem py_rep {K : PySem.W.Frag} {H : Hp} {ρ : Rho} : ∀ (d : D) (v : V) (p : PyData), DRep K H ρ v d → pyC d = some p → Dp K H v p
  | .non, _, _, r, e => by cases r; rw [pyC] at e; cases e; exact .non
  | .bl b, _, _, r, e => by cases r; rw [pyC] at e; cases e; exact .bl b
  | .int i, _, _, r, e => by cases r; rw [pyC] at e; cases e; exact .int i
  | .str s, _, _, r, e => by cases r; rw [pyC] at e; cases e; exact .str s
  | .lst xs, _, _, r, e => by
    cases r with
    | lst i rs =>
      rw [pyC] at e
      cases q : pyCs xs with
      | none => rw [q] at e; cases e
      | some ps => rw [q] at e; cases e; exact .lst i.seq (py_reps xs _ ps rs q)
  | .tup xs, _, _, r, e => by
    cases r with
    | tup i rs =>
      rw [pyC] at e
      cases q : pyCs xs with
      | none => rw [q] at e; cases e
      | some ps => rw [q] at e; cases e; exact .tup i.seq (py_reps xs _ ps rs q)
  | .mref _, _, _, _, e => by rw [pyC] at e; cases e
  | .dic _ _, _, _, _, e => by rw [pyC] at e; cases e
  | .wtup _, _, _, _, e => by rw [pyC] at e; cases e
theorem py_reps {K : PySem.W.Frag} {H : Hp} {ρ : Rho} : ∀ (ds : List D) (vs : List V) (ps : List PyData), DReps K H ρ vs ds → pyCs ds = some ps → DpAll K H vs ps
  | [], _, _, r, e => by cases r; rw [pyCs] at e; cases e; exact .nil
  | d :: ds, _, _, r, e => by
    cases r with
    | cons a b =>
      rw [pyCs] at e
      cases q : pyC d with
      | none => rw [q] at e; cases e
      | some p =>
        cases q2 : pyCs ds with
        | none => rw [q, q2] at e; cases e
        | some ps => rw [q, q2] at e; cases e; exact .cons (py_rep d _ p a q) (py_reps ds _ ps b q2)
end
/-- the data of a value; a living list's too -/
def pyD (μ : Mu) (d : D) : Option PyData := match d with
  | .mref h => (dL μ (.mref h)).bind fun xs => (pyCs xs).map .list
  | d => pyC d
def pyS (μ : Mu) (d : D) : Option PyData := (pyD μ d).bind fun p => if SeqAt.shaped p = true then some p else none
theorem py_ok {G : Gx} {H : Hp} {ρ : Rho} {μ : Mu} (m : MuRep G H ρ μ) {v : V} {d : D} {p : PyData} (r : DRep G.K H ρ v d) (e : pyS μ d = some p) : Dp G.K H v p ∧ SeqAt.shaped p = true := by
  unfold pyS at e
  cases q : pyD μ d with
  | none => rw [q] at e; cases e
  | some p' =>
    rw [q] at e
    have e : (if SeqAt.shaped p' = true then some p' else none) = some p := e
    by_cases hs : SeqAt.shaped p' = true
    · rw [if_pos hs] at e
      cases e
      refine ⟨?_, hs⟩
      cases d with
      | mref h =>
        have q : (dL μ (.mref h)).bind (fun xs => (pyCs xs).map .list) = some p := q
        cases q1 : dL μ (.mref h) with
        | none => rw [q1] at q; cases q
        | some xs =>
          cases q2 : pyCs xs with
          | none => rw [q1] at q; simp [q2] at q
          | some ps =>
            rw [q1] at q
            simp [q2] at q
            subst q
            obtain ⟨a, vs, rfl, h1, r1⟩ := m.dL r q1
            exact .lst (.inl h1) (py_reps xs vs ps r1 q2)
      | _ => exact py_rep _ v p r q
    · rw [if_neg hs] at e; cases e
def oEq (x y : D) : Cm D := Cm.look fun μ => (pyS μ x).bind fun p => (pyS μ y).bind fun q => some (.bl (PyData.eqv p q))
def oNe (x y : D) : Cm D := Cm.look fun μ => (pyS μ x).bind fun p => (pyS μ y).bind fun q => some (.bl (!PyData.eqv p q))
theorem eq_lemma {G : Gx} {W : Value → Option Addr → Hp → Prop} {ρ : Rho} {H : Hp} {x y : V} {dx dy : D} {Q : VK} {f : Bool → Bool} (rx : DRep G.K H ρ x dx) (ry : DRep G.K H ρ y dy)
    (c : Cfg G (rV G.K) W ρ H (Cm.look fun μ => (pyS μ dx).bind fun p => (pyS μ dy).bind fun q => some (.bl (f (PyData.eqv p q)))) Q) : ∃ d e, Dp G.K H x d ∧ Dp G.K H y e ∧ SeqAt.shaped d = true ∧ SeqAt.shaped e = true ∧ Q (.bl (f (PyData.eqv d e))) H := by
  obtain ⟨μ, d, hm, e, c⟩ := c.look
  cases e1 : pyS μ dx with
  | none => rw [e1] at e; cases e
  | some p =>
    cases e2 : pyS μ dy with
    | none => rw [e1, e2] at e; cases e
    | some q =>
      rw [e1, e2] at e
      cases e
      obtain ⟨a1, a2⟩ := py_ok hm rx e1
      obtain ⟨b1, b2⟩ := py_ok hm ry e2
      exact ⟨p, q, a1, b1, a2, b2, c.ok _ (.bl _)⟩
section
variable {X : Cx} {tb : Addr → Prop} {W : WX} {pos : Pos}
theorem sem_eq {G : Gx} : Sem2 G oEq (rEqD G.K) := fun W ρ H x y dx dy Q rx ry c => eq_lemma (f := fun b => b) rx ry c
theorem sem_ne {G : Gx} : Sem2 G oNe (rNeD G.K) := fun W ρ H x y dx dy Q rx ry c => eq_lemma (f := fun b => !b) rx ry c
theorem hu64 {A : Around} {k : Nat} (hr : Room k A) : A.units + 64 < cLine := hr.units
/-- is None, is not None -/
def dNon : D → Bool
  | .non => true
  | _ => false
theorem non_rep {K : PySem.W.Frag} {H : Hp} {ρ : Rho} {v : V} {d : D} (r : DRep K H ρ v d) : decide (v = .non) = dNon d := by
  cases r <;> rfl
def oIsN (x y : D) : Cm D := match y with | .non => Cm.ok (.bl (dNon x)) | _ => Cm.fail
def oNotN (x y : D) : Cm D := match y with | .non => Cm.ok (.bl (!dNon x)) | _ => Cm.fail
theorem sem_isN {G : Gx} : Sem2 G oIsN (fun x y H Q => y = .non ∧ Q (.bl (decide (x = .non))) H) := by
  intro W ρ H x y dx dy Q rx ry c
  cases dy with
  | non => cases ry; exact ⟨rfl, by rw [non_rep rx]; exact Cfg.ok (d := D.bl (dNon dx)) c _ (DRep.bl _)⟩
  | _ => exact c.fails.elim
theorem sem_notN {G : Gx} : Sem2 G oNotN (fun x y H Q => y = .non ∧ Q (.bl (!decide (x = .non))) H) := by
  intro W ρ H x y dx dy Q rx ry c
  cases dy with
  | non => cases ry; exact ⟨rfl, by rw [non_rep rx]; exact Cfg.ok (d := D.bl (!dNon dx)) c _ (DRep.bl _)⟩
  | _ => exact c.fails.elim
/-! ## in, of flat things -/
def flD : D → Bool
  | .non => true | .bl _ => true | .int _ => true | .str _ => true
  | _ => false
def eqF : D → D → Bool
  | .non, .non => true
  | .bl a, .bl b => a == b
  | .bl a, .int b => (if a then 1 else 0) == b
  | .int a, .bl b => a == (if b then 1 else 0)
  | .int a, .int b => a == b
  | .str a, .str b => a == b
  | _, _ => false
theorem fl_rep {K : PySem.W.Frag} {H : Hp} {ρ : Rho} {v : V} {d : D} (r : DRep K H ρ v d) (h : flD d = true) : flatV v = true := by
  cases r <;> first | rfl | cases h
theorem fl_reps {K : PySem.W.Frag} {H : Hp} {ρ : Rho} : ∀ {vs : List V} {ds : List D}, DReps K H ρ vs ds → ds.all flD = true → vs.all flatV = true
  | _, _, .nil, _ => rfl
  | _, _, .cons a r, h => by
    rw [List.all_cons, Bool.and_eq_true] at h
    rw [List.all_cons, fl_rep a h.1, fl_reps r h.2]
    rfl
theorem eqF_rep {K : PySem.W.Frag} {H : Hp} {ρ : Rho} {v w : V} {d e : D} (r : DRep K H ρ v d) (s : DRep K H ρ w e) (h : flD d = true) (h2 : flD e = true) : eqV v w = eqF d e := by
  cases r <;> first | (cases s <;> first | rfl | cases h2) | cases h
theorem inF_rep {K : PySem.W.Frag} {H : Hp} {ρ : Rho} {w : V} {e : D} (s : DRep K H ρ w e) (h2 : flD e = true) : ∀ {vs : List V} {ds : List D}, DReps K H ρ vs ds → ds.all flD = true → inV w vs = ds.any fun d => eqF d e
  | _, _, .nil, _ => rfl
  | _, _, .cons a r, h => by
    rw [List.all_cons, Bool.and_eq_true] at h
    have ih := inF_rep s h2 r h.2
    unfold inV at ih ⊢
    rw [List.any_cons, List.any_cons, ih, eqF_rep a s h.1 h2]
def oIn (neg : Bool) (x y : D) : Cm D := Cm.look fun μ => (dLT μ y).bind fun ys => if flD x = true ∧ ys.all flD = true then some (D.bl (if neg then !(ys.any fun d => eqF d x) else ys.any fun d => eqF d x)) else none
theorem sem_in {G : Gx} {neg : Bool} : Sem2 G (oIn neg) (rIn G.K neg) := by
  intro W ρ H x y dx dy Q rx ry c
  obtain ⟨μ, d, hm, e, c⟩ := c.look
  cases e1 : dLT μ dy with
  | none => rw [e1] at e; cases e
  | some ys =>
    rw [e1] at e
    have e : (if flD dx = true ∧ ys.all flD = true then some (D.bl (if neg then !(ys.any fun d => eqF d dx) else ys.any fun d => eqF d dx)) else none) = some d := e
    by_cases h : flD dx = true ∧ ys.all flD = true
    · rw [if_pos h] at e
      cases e
      obtain ⟨a, vs, rfl, h1, r1⟩ := hm.dLT ry e1
      refine ⟨a, vs, rfl, h1, fl_rep rx h.1, fl_reps r1 h.2, ?_⟩
      rw [inF_rep rx h.1 r1 h.2]
      exact c.ok _ (.bl _)
    · rw [if_neg h] at e; cases e
/-! ## items -/
def oIx (x y : D) : Cm D := match x, y with
  | .str z, .int i => if z.length ≤ sizeLine then Cm.lift ((atI z.cps.toList i).map fun c => .str ⟨#[c]⟩) else Cm.fail
  | x, .int i => Cm.look fun μ => (dLT μ x).bind fun xs => atI xs i
  | _, _ => Cm.fail
theorem at_rep {K : PySem.W.Frag} {H : Hp} {ρ : Rho} {vs : List V} {ds : List D} (r : DReps K H ρ vs ds) {i : Int} {d : D} (e : atI ds i = some d) : ∃ v, atI vs i = some v ∧ DRep K H ρ v d := by
  unfold atI at e ⊢
  rw [r.length]
  cases q : ixN ds.length i with
  | none => rw [q] at e; cases e
  | some j =>
    rw [q] at e
    exact DReps.get r e
theorem sem_ix {G : Gx} : Sem2 G oIx (rIx G.K) := by
  intro W ρ H x y dx dy Q rx ry c
  have lst : ∀ dx (i : Int), DRep G.K H ρ x dx → y = .int i → Cfg G (rV G.K) W ρ H (Cm.look fun μ => (dLT μ dx).bind fun xs => atI xs i) Q → rIx G.K x y H Q := by
    intro dx i rx ry c
    subst ry
    obtain ⟨μ, d, hm, e, c⟩ := c.look
    cases e1 : dLT μ dx with
    | none => rw [e1] at e; cases e
    | some xs =>
      rw [e1] at e
      obtain ⟨a, vs, rfl, h1, r1⟩ := hm.dLT rx e1
      obtain ⟨v, h2, r2⟩ := at_rep r1 e
      rcases h1 with h1 | h1
      · exact .inl ⟨a, vs, i, v, rfl, rfl, h1, h2, c.ok v r2⟩
      · exact .inr (.inl ⟨a, vs, i, v, rfl, rfl, h1, h2, c.ok v r2⟩)
  cases dy with
  | int i =>
    cases dx with
    | str z =>
      cases rx; cases ry
      have c : Cfg G (rV G.K) W ρ H (if z.length ≤ sizeLine then Cm.lift ((atI z.cps.toList i).map fun c => .str ⟨#[c]⟩) else Cm.fail) Q := c
      by_cases hl : z.length ≤ sizeLine
      · rw [if_pos hl] at c
        obtain ⟨d, e, c⟩ := c.lift
        cases q : atI z.cps.toList i with
        | none => rw [q] at e; cases e
        | some cc => rw [q] at e; cases e; exact .inr (.inr ⟨z, i, cc, rfl, rfl, hl, q, c.ok _ (.str _)⟩)
      · rw [if_neg hl] at c; exact c.fails.elim
    | _ => cases ry; exact lst _ i rx rfl c
  | _ => cases dx <;> exact c.fails.elim
theorem de_ixD {a b : Expr} {fa fb : Sl → Cm D} (ha : DE X tb W a fa) (hb : DE X tb W b fb) (hs : PlainIx b := by exact fun _ _ => rfl) : DE X tb W (.Subscript a b pos) (eOp2 oIx fa fb) := de_ix ix_seq sem_ix ha hb hs
/-! ## slices -/
def cutD (xs : List D) (lo hi : Option Int) : List D := (xs.drop (HT.sIx xs.length 0 lo)).take (HT.sIx xs.length xs.length hi - HT.sIx xs.length 0 lo)
theorem cut_rep {K : PySem.W.Frag} {H : Hp} {ρ : Rho} {vs : List V} {ds : List D} (r : DReps K H ρ vs ds) (lo hi : Option Int) : DReps K H ρ (cutV vs lo hi) (cutD ds lo hi) := by
  unfold cutV cutD
  rw [r.length]
  exact (r.drop _).take _
def oSl (x : D) (lo hi : Option Int) : Cm D := match x with
  | .str z => if z.length ≤ sizeLine then Cm.ok (.str (cutS z lo hi)) else Cm.fail
  | .tup xs => Cm.ok (.tup (cutD xs lo hi))
  | x => Cm.look fun μ => (dL μ x).bind fun xs => some (.lst (cutD xs lo hi))
abbrev DO (X : Cx) (tb : Addr → Prop) (W : WX) (e : Option Expr) (f : Sl → Cm (Option Int)) : Prop := PO X e (rd (gx X tb) (fun _ _ a b => a = b) W f)
def pNo : Sl → Cm (Option Int) := fun _ => Cm.ok none
def pSome (f : Sl → Cm D) : Sl → Cm (Option Int) := fun sl => (f sl).bind fun d => match d with | .int i => Cm.ok (some i) | _ => Cm.fail
theorem _root_.L2.PO.imp {X : Cx} {e : Option Expr} {t t' : TO} (h : PO X e t) (i : ∀ σ H Q, t' σ H Q → t σ H Q) : PO X e t' := ⟨fun p s σ H Q I q => h.run p s σ H Q I (i σ H Q q)⟩
theorem do_none : DO X tb W none pNo := po_none.imp fun σ H Q ⟨sl, ρ, hs, hc⟩ => hc.ok _ rfl
theorem do_some {e : Expr} {f : Sl → Cm D} (h : DE X tb W e f) : DO X tb W (some e) (pSome f) := (po_some h).imp fun σ H Q ⟨sl, ρ, hs, hc⟩ => ⟨sl, ρ, hs, (Cfg.bind (Rq := rV X.K) hc).imp fun v H1 ⟨ρ1, d, r, x, k, c⟩ => by
  cases d with
  | int i => cases r; exact ⟨i, rfl, Cfg.ok (d := some i) c _ rfl⟩
  | _ => exact c.fails.elim⟩
def eSl (f : Sl → Cm D) (lo hi : Sl → Cm (Option Int)) : Sl → Cm D := fun sl => (f sl).bind fun x => (lo sl).bind fun l => (hi sl).bind fun h => oSl x l h
def rSlD (K : PySem.W.Frag) : V → Option Int → Option Int → Hp → VK → Prop := fun x lo hi H Q => rSlL K x lo hi H Q ∨ (rSlS x lo hi H Q ∨ rSlTS K x lo hi H Q)
theorem sl_all : SlR X (rSlD X.K) := SlR.or sl_list (SlR.or sl_str sl_tupS)
theorem cutD_all {xs : List D} {lo hi : Option Int} (h : HT.sIx xs.length 0 lo = 0 ∧ HT.sIx xs.length xs.length hi = xs.length) : cutD xs lo hi = xs := by
  unfold cutD
  rw [h.1, h.2]
  simp
theorem sem_sl {G : Gx} {W : Value → Option Addr → Hp → Prop} {ρ : Rho} {H : Hp} {x : V} {dx : D} {lo hi : Option Int} {Q : VK} (rx : DRep G.K H ρ x dx) (c : Cfg G (rV G.K) W ρ H (oSl dx lo hi) Q) : rSlD G.K x lo hi H Q := by
  have lst : ∀ dx, DRep G.K H ρ x dx → Cfg G (rV G.K) W ρ H (Cm.look fun μ => (dL μ dx).bind fun xs => some (.lst (cutD xs lo hi))) Q → rSlD G.K x lo hi H Q := by
    intro dx rx c
    obtain ⟨μ, d, hm, e, c⟩ := c.look
    cases e1 : dL μ dx with
    | none => rw [e1] at e; cases e
    | some xs =>
      rw [e1] at e
      cases e
      obtain ⟨a, vs, rfl, h1, r1⟩ := hm.dL rx e1
      exact .inl ⟨a, vs, rfl, .inl h1, c.newL (cut_rep r1 lo hi)⟩
  cases dx with
  | str z =>
    cases rx
    have c : Cfg G (rV G.K) W ρ H (if z.length ≤ sizeLine then Cm.ok (.str (cutS z lo hi)) else Cm.fail) Q := c
    by_cases hl : z.length ≤ sizeLine
    · rw [if_pos hl] at c; exact .inr (.inl ⟨z, rfl, hl, c.ok _ (.str _)⟩)
    · rw [if_neg hl] at c; exact c.fails.elim
  | tup xs =>
    have rx' := rx
    cases rx with
    | @tup a vs ds i1 r1 =>
      have c : Cfg G (rV G.K) W ρ H (Cm.ok (.tup (cutD xs lo hi))) Q := c
      refine .inr (.inr ⟨a, vs, rfl, i1.seq, fun h => ?_, fun h => c.newT (cut_rep r1 lo hi)⟩)
      rw [r1.length] at h
      rw [cutD_all h] at c
      exact c.ok _ rx'
  | _ => exact lst _ rx c
theorem de_slice {e : Expr} {lo hi : Option Expr} {p2 : Pos} {f : Sl → Cm D} {fl fh : Sl → Cm (Option Int)} (he : DE X tb W e f) (hl : DO X tb W lo fl) (hh : DO X tb W hi fh) : DE X tb W (.Subscript e (.Slice lo hi none p2) pos) (eSl f fl fh) :=
  (pe_slice sl_all he hl hh).imp fun σ H Q ⟨sl, ρ, hs, hc⟩ => ⟨sl, ρ, hs, (Cfg.bind (Rq := rV X.K) hc).imp fun v H1 ⟨ρ1, dx, rx, x1, k1, c1⟩ =>
    ⟨sl, ρ1, hs.step x1 k1, (Cfg.bind (Rq := fun _ _ a b => a = b) c1).imp fun l H2 ⟨ρ2, dl, rl, x2, k2, c2⟩ => by
      have e1 : l = dl := rl
      subst e1
      refine ⟨sl, ρ2, (hs.step x1 k1).step x2 k2, (Cfg.bind (Rq := fun _ _ a b => a = b) c2).imp fun u H3 ⟨ρ3, dh, rh, x3, k3, c3⟩ => ?_⟩
      have e2 : u = dh := rh
      subst e2
      have rx : DRep X.K H1 ρ1 v dx := rx
      exact sem_sl (G := gx X tb) (DRep.step x3 k3 dx v (DRep.step x2 k2 dx v rx)) c3⟩⟩
end
end DL

namespace DL
open PySem PySem.Spec PyProof.Rows L2
/-! ## what is walked -/
def itemsD (μ : Mu) : D → Option (List D × List (Nat × List D))
  | .str z => some (z.cps.toList.map fun c => .str ⟨#[c]⟩, [])
  | .tup xs => some (xs, [])
  | .lst xs => some (xs, [])
  | .mref h => (dL μ (.mref h)).map fun xs => (xs, [(h, xs)])
  | _ => none
def iSeq (f : Sl → Cm D) : Sl → Cm (List D × List (Nat × List D)) := fun sl => (f sl).bind fun d => Cm.look fun μ => itemsD μ d
/-- a sequence as it stands, by its items -/
inductive SK where
  | l (a : Addr) | t (a : Addr) | s (x : Str)
def SK.v : SK → V
  | .l a => .ref a | .t a => .ref a | .s x => .str x
def SK.stand (K : PySem.W.Frag) (H : Hp) : SK → List V → Prop
  | .l a, xs => SqL K H a xs
  | .t a, xs => SqT K H a xs
  | .s x, xs => xs = x.cps.toList.map fun c => .str ⟨#[c]⟩
/-- a value's sequence stands and goes on standing -/
def StandD (G : Gx) (H : Hp) (ρ : Rho) (k : SK) (items : List D) (gs : List (Nat × List D)) : Prop := ∀ H2 ρ2 μ2, Step G ρ H ρ2 H2 μ2 → Guard gs μ2 → ∃ vs, k.stand G.K H2 vs ∧ DReps G.K H2 ρ2 vs items
theorem sgn_reps {K : PySem.W.Frag} {H : Hp} {ρ : Rho} : ∀ l : List Nat, DReps K H ρ (l.map fun c => V.str ⟨#[c]⟩) (l.map fun c => D.str ⟨#[c]⟩)
  | [] => .nil
  | _ :: l => .cons (.str _) (sgn_reps l)
theorem stand_of {G : Gx} {H : Hp} {ρ : Rho} {μ : Mu} {v : V} {d : D} {items : List D} {gs : List (Nat × List D)} (r : DRep G.K H ρ v d) (e : itemsD μ d = some (items, gs)) (m : MuRep G H ρ μ) : ∃ k : SK, k.v = v ∧ StandD G H ρ k items gs := by
  cases d with
  | str z => cases r; cases e; exact ⟨.s z, rfl, fun H2 ρ2 μ2 st g => ⟨_, rfl, sgn_reps _⟩⟩
  | tup xs =>
    cases e
    have r' := r
    cases r with
    | @tup a vs ds i rs =>
      refine ⟨.t a, rfl, fun H2 ρ2 μ2 st g => ?_⟩
      have r2 := DRep.step st.ext st.keep _ _ r'
      cases r2 with
      | tup i2 rs2 => exact ⟨_, i2.seq, rs2⟩
  | lst xs =>
    cases e
    have r' := r
    cases r with
    | @lst a vs ds i rs =>
      refine ⟨.l a, rfl, fun H2 ρ2 μ2 st g => ?_⟩
      have r2 := DRep.step st.ext st.keep _ _ r'
      cases r2 with
      | lst i2 rs2 => exact ⟨_, i2.seq, rs2⟩
  | mref h =>
    have e : (dL μ (.mref h)).map (fun xs => (xs, [(h, xs)])) = some (items, gs) := e
    cases q : dL μ (.mref h) with
    | none => rw [q] at e; cases e
    | some xs =>
      rw [q] at e
      cases e
      obtain ⟨a, vs, rfl, e1, e2, e3⟩ := m.lst r (mref_l q)
      refine ⟨.l a, rfl, fun H2 ρ2 μ2 st g => ?_⟩
      have g1 : μ2[h]? = some (some (.lst items)) := g (h, items) (List.mem_singleton.mpr rfl)
      obtain ⟨a2, vs2, q1, q2, q3, q4⟩ := st.mu.lst (DRep.step st.ext st.keep _ _ r) g1
      cases q1
      exact ⟨vs2, .inl (.inl q3), q4⟩
  | _ => cases e
theorem walk_l {G : Gx} {H : Hp} {ρ : Rho} {a : Addr} {items : List D} {gs : List (Nat × List D)} (s : StandD G H ρ (.l a) items gs) : WalkD G H ρ (Itl G.K a) items gs := fun H2 ρ2 μ2 st g => by
  obtain ⟨vs, h1, r1⟩ := s H2 ρ2 μ2 st g
  have h1 : SqL G.K H2 a vs := h1
  have hl := r1.length
  refine ⟨fun i hi => ⟨vs, vs[i]'(by omega), h1, List.getElem?_eq_getElem _⟩, fun i hi => ⟨vs, h1, by omega⟩, fun i d hd x H3 y => ?_⟩
  obtain ⟨rfl, y⟩ := y
  obtain ⟨v, h2, r2⟩ := r1.get hd
  have := y vs h1
  rw [h2] at this
  cases this
  exact ⟨.refl st.mu, r2⟩
theorem walk_t {G : Gx} {H : Hp} {ρ : Rho} {a : Addr} {items : List D} {gs : List (Nat × List D)} (s : StandD G H ρ (.t a) items gs) : WalkD G H ρ (Itt G.K a) items gs := fun H2 ρ2 μ2 st g => by
  obtain ⟨vs, h1, r1⟩ := s H2 ρ2 μ2 st g
  have h1 : SqT G.K H2 a vs := h1
  have hl := r1.length
  refine ⟨fun i hi => ⟨vs, vs[i]'(by omega), h1, List.getElem?_eq_getElem _⟩, fun i hi => ⟨vs, h1, by omega⟩, fun i d hd x H3 y => ?_⟩
  obtain ⟨rfl, y⟩ := y
  obtain ⟨v, h2, r2⟩ := r1.get hd
  have := y vs h1
  rw [h2] at this
  cases this
  exact ⟨.refl st.mu, r2⟩
theorem walk_s {G : Gx} {H : Hp} {ρ : Rho} {z : Str} {items : List D} {gs : List (Nat × List D)} (s : StandD G H ρ (.s z) items gs) : WalkD G H ρ (Its z) items gs := fun H2 ρ2 μ2 st g => by
  obtain ⟨vs, h1, r1⟩ := s H2 ρ2 μ2 st g
  have h1 : vs = z.cps.toList.map fun c => V.str ⟨#[c]⟩ := h1
  have hl := r1.length
  have hz : vs.length = z.cps.size := by rw [h1]; simp
  refine ⟨fun i hi => by show i < z.cps.size; omega, fun i hi => by show z.cps.size ≤ i; omega, fun i d hd x H3 y => ?_⟩
  obtain ⟨rfl, c, hc, rfl⟩ := y
  obtain ⟨v, h2, r2⟩ := r1.get hd
  rw [h1, List.getElem?_map, Array.getElem?_toList, hc] at h2
  cases h2
  exact ⟨.refl st.mu, r2⟩
section
variable {X : Cx} {tb : Addr → Prop} {W : WX} {pos : Pos}
/-- iter(e), e a list, a tuple, a text -/
theorem di_seq {tg e : Expr} {f : Sl → Cm D} (he : DE X tb W e f) : DI X tb W tg e (iSeq f) := by
  refine ⟨fun pins s σ H R I h => ?_⟩
  obtain ⟨sl, ρ, hs, μ, r, μ', hm, hc, hend⟩ := h
  have hc0 := hc
  unfold iSeq Cm.bind at hc
  cases e1 : f sl μ with
  | none => rw [e1] at hc; cases hc
  | some p =>
    obtain ⟨q, μ1⟩ := p
    rw [e1] at hc
    cases q with
    | ex x =>
      simp only [Option.some.injEq, Prod.mk.injEq] at hc
      obtain ⟨rfl, rfl⟩ := hc
      exact (pi_list he).run pins s σ H R I ⟨sl, ρ, hs, μ, .ex x, μ1, hm, e1, hend⟩
    | ok d =>
      simp only [Cm.look] at hc
      cases e2 : itemsD μ1 d with
      | none => rw [e2] at hc; cases hc
      | some it =>
        obtain ⟨items, gs⟩ := it
        rw [e2] at hc
        simp only [Option.some.injEq, Prod.mk.injEq] at hc
        obtain ⟨rfl, rfl⟩ := hc
        have key : ∀ v H' ρ', Step (gx X tb) ρ H ρ' H' μ1 → DRep X.K H' ρ' v d → ∃ k : SK, k.v = v ∧ StandD (gx X tb) H' ρ' k items gs ∧ ∀ J, WalkD (gx X tb) H' ρ' J items gs → R J H' := fun v H' ρ' st r => by
          obtain ⟨k, hk, sd⟩ := stand_of (G := gx X tb) r e2 st.mu
          exact ⟨k, hk, sd, fun J wk => hend J H' ρ' st wk⟩
        have lst : (∀ v H' ρ', Step (gx X tb) ρ H ρ' H' μ1 → DRep X.K H' ρ' v d → ∃ a, v = .ref a ∧ StandD (gx X tb) H' ρ' (.l a) items gs ∧ ∀ J, WalkD (gx X tb) H' ρ' J items gs → R J H') → wpAny (model X.prog X.w) X.A (eval e X.env) (fun v s1 => wpAny (model X.prog X.w) X.A (pyIter v) (PIE X pins σ tg R) X.xe s1) X.xe s := fun k2 => by
          refine (pi_list he).run pins s σ H R I ⟨sl, ρ, hs, μ, .ok d, μ1, hm, e1, fun v H' ρ' st r => ?_⟩
          obtain ⟨a, rfl, sd, k3⟩ := k2 v H' ρ' st r
          obtain ⟨vs, h1, _⟩ := sd H' ρ' μ1 (.refl st.mu) ((fun p hp => by
            cases d with
            | mref h =>
              have e2 : (dL μ1 (.mref h)).map (fun xs => (xs, [(h, xs)])) = some (items, gs) := e2
              cases q : dL μ1 (.mref h) with
              | none => rw [q] at e2; cases e2
              | some xs =>
                rw [q] at e2
                cases e2
                rw [List.mem_singleton.mp hp]
                exact mref_l q
            | str z => cases e2; cases hp
            | tup z => cases e2; cases hp
            | lst z => cases e2; cases hp
            | _ => cases e2))
          exact ⟨a, rfl, ⟨vs, h1⟩, k3 _ (walk_l sd)⟩
        cases d with
        | str z =>
          refine (pi_str he).run pins s σ H R I ⟨sl, ρ, hs, μ, .ok _, μ1, hm, e1, fun v H' ρ' st r => ?_⟩
          obtain ⟨k, hk, sd, k3⟩ := key v H' ρ' st r
          cases r
          cases e2
          refine ⟨z, rfl, k3 _ (walk_s (fun H2 ρ2 μ2 st g => ⟨_, rfl, sgn_reps _⟩))⟩
        | tup xs =>
          refine (pi_tup he).run pins s σ H R I ⟨sl, ρ, hs, μ, .ok _, μ1, hm, e1, fun v H' ρ' st r => ?_⟩
          obtain ⟨k, hk, sd, k3⟩ := key v H' ρ' st r
          cases e2
          have r0 := r
          cases r with
          | @tup a vs ds i rs =>
            refine ⟨a, rfl, ⟨vs, i.seq⟩, k3 _ (walk_t (fun H2 ρ2 μ2 st g => ?_))⟩
            have r2 := DRep.step st.ext st.keep _ _ r0
            cases r2 with
            | tup i2 rs2 => exact ⟨_, i2.seq, rs2⟩
        | lst xs =>
          refine lst fun v H' ρ' st r => ?_
          obtain ⟨k, hk, sd, k3⟩ := key v H' ρ' st r
          cases e2
          have r0 := r
          cases r with
          | @lst a vs ds i rs =>
            refine ⟨a, rfl, (fun H2 ρ2 μ2 st g => ?_), k3⟩
            have r2 := DRep.step st.ext st.keep _ _ r0
            cases r2 with
            | lst i2 rs2 => exact ⟨_, i2.seq, rs2⟩
        | mref h =>
          refine lst fun v H' ρ' st r => ?_
          obtain ⟨k, hk, sd, k3⟩ := key v H' ρ' st r
          have e2 : (dL μ1 (.mref h)).map (fun xs => (xs, [(h, xs)])) = some (items, gs) := e2
          cases q : dL μ1 (.mref h) with
          | none => rw [q] at e2; cases e2
          | some xs =>
            rw [q] at e2
            cases e2
            obtain ⟨a, vs, rfl, q1, q2, q3⟩ := st.mu.lst r (mref_l q)
            refine ⟨a, rfl, (fun H2 ρ2 μ2 st2 g => ?_), k3⟩
            have g1 : μ2[h]? = some (some (.lst items)) := g (h, items) (List.mem_singleton.mpr rfl)
            obtain ⟨a2, vs2, p1, p2, p3, p4⟩ := st2.mu.lst (DRep.step st2.ext st2.keep _ _ r) g1
            cases p1
            exact ⟨vs2, .inl (.inl p3), p4⟩
        | _ => cases e2
end
end DL

namespace DL
open PySem PySem.Spec PyProof.Rows L2
/-! ## range -/
def upto (lo : Int) (n : Nat) : List D := (List.range n).map fun i : Nat => D.int (lo + (i : Int))
theorem walk_r {G : Gx} {H : Hp} {ρ : Rho} (lo : Int) (n : Nat) : WalkD G H ρ (Itr lo n) (upto lo n) [] := fun H2 ρ2 μ2 st g => by
  have hl : (upto lo n).length = n := by unfold upto; rw [List.length_map, List.length_range]
  refine ⟨fun i hi => by show i < n; omega, fun i hi => by show n ≤ i; omega, fun i d hd x H3 y => ?_⟩
  obtain ⟨rfl, rfl⟩ := y
  have hi : i < n := by
    have := (List.getElem?_eq_some_iff.mp hd).1
    omega
  unfold upto at hd
  rw [List.getElem?_map, List.getElem?_range hi] at hd
  cases hd
  exact ⟨.refl st.mu, .int _⟩
def int1 : List D → Option Int
  | [.int j] => some j
  | _ => none
def int2 : List D → Option (Int × Int)
  | [.int i, .int j] => some (i, j)
  | _ => none
theorem int1_of : ∀ {ds : List D} {j : Int}, int1 ds = some j → ds = [.int j]
  | [], _, e => by cases e
  | [.int _], _, e => by cases e; rfl
  | [.non], _, e | [.bl _], _, e | [.str _], _, e | [.lst _], _, e | [.tup _], _, e | [.mref _], _, e | [.dic _ _], _, e | [.wtup _], _, e => by cases e
  | a :: _ :: _, _, e => by cases a <;> cases e
theorem int2_of : ∀ {ds : List D} {p : Int × Int}, int2 ds = some p → ds = [.int p.1, .int p.2]
  | [], _, e => by cases e
  | [a], _, e => by cases a <;> cases e
  | [a, b], _, e => by cases a <;> first | (cases b <;> first | (cases e; rfl) | cases e) | cases e
  | a :: b :: _ :: _, _, e => by cases a <;> first | (cases b <;> cases e) | cases e
theorem reps1 {K : PySem.W.Frag} {H : Hp} {ρ : Rho} {vs : List V} {d : D} (r : DReps K H ρ vs [d]) : ∃ v, vs = [v] ∧ DRep K H ρ v d := by
  cases r with | cons a b => cases b; exact ⟨_, rfl, a⟩
theorem reps2 {K : PySem.W.Frag} {H : Hp} {ρ : Rho} {vs : List V} {d e : D} (r : DReps K H ρ vs [d, e]) : ∃ v w, vs = [v, w] ∧ DRep K H ρ v d ∧ DRep K H ρ w e := by
  cases r with | cons a b => cases b with | cons c d => cases d; exact ⟨_, _, rfl, a, c⟩
def iRange1 (fs : Sl → Cm (List D)) : Sl → Cm (List D × List (Nat × List D)) := fun sl => (fs sl).bind fun ds => Cm.lift ((int1 ds).bind fun j => if -(2 ^ 62) ≤ j ∧ j < 2 ^ 62 then some (upto 0 j.toNat, []) else none)
def iRange2 (fs : Sl → Cm (List D)) : Sl → Cm (List D × List (Nat × List D)) := fun sl => (fs sl).bind fun ds => Cm.lift ((int2 ds).bind fun p => if -(2 ^ 62) ≤ p.1 ∧ p.1 < 2 ^ 62 ∧ -(2 ^ 62) ≤ p.2 ∧ p.2 < 2 ^ 62 then some (upto p.1 (p.2 - p.1).toNat, []) else none)
theorem _root_.L2.PI.imp {X : Cx} {tg e : Expr} {t t' : TI} (h : PI X tg e t) (i : ∀ σ H R, t' σ H R → t σ H R) : PI X tg e t' := ⟨fun p s σ H R I q => h.run p s σ H R I (i σ H R q)⟩
section
variable {X : Cx} {tb : Addr → Prop} {W : WX} {pos : Pos} {tg : Expr}
theorem di_range1 {a : Expr} {fs : Sl → Cm (List D)} {p : Pos} (hg : Gl X "range") (hm : X.mg "range" = none) (ha : DA X tb W [a] fs) (hs : starEach [a] X.env = [(false, eval a X.env)] := by rfl) : DI X tb W tg (.Call (.Name "range" p) [a] [] pos) (iRange1 fs) :=
  (pi_range1 hg hm ha hs).imp fun σ H R ⟨sl, ρ, hs, hc⟩ => ⟨sl, ρ, hs, (Cfg.bind (Rq := rVs X.K) hc).imp fun vs H1 ⟨ρ1, ds, rs, x, k, c⟩ => by
    obtain ⟨it, e, c⟩ := c.lift
    cases q : int1 ds with
    | none => rw [q] at e; cases e
    | some j =>
      rw [q] at e
      have e : (if -(2 ^ 62) ≤ j ∧ j < 2 ^ 62 then some (upto 0 j.toNat, ([] : List (Nat × List D))) else none) = some it := e
      by_cases h : -(2 ^ 62) ≤ j ∧ j < 2 ^ 62
      · rw [if_pos h] at e
        cases e
        have q := int1_of q
        rw [q] at rs
        obtain ⟨v, rfl, rv⟩ := reps1 rs
        cases rv
        exact ⟨j, rfl, h.1, h.2, c.ok (Itr 0 j.toNat) (show rIt (gx X tb) H1 ρ1 (Itr 0 j.toNat) (upto 0 j.toNat, []) from walk_r 0 j.toNat)⟩
      · rw [if_neg h] at e; cases e⟩
theorem di_range2 {a b : Expr} {fs : Sl → Cm (List D)} {p : Pos} (hg : Gl X "range") (hm : X.mg "range" = none) (ha : DA X tb W [a, b] fs) (hs : starEach [a, b] X.env = [(false, eval a X.env), (false, eval b X.env)] := by rfl) (hs2 : starEach [b] X.env = [(false, eval b X.env)] := by rfl) : DI X tb W tg (.Call (.Name "range" p) [a, b] [] pos) (iRange2 fs) :=
  (pi_range2 hg hm ha hs hs2).imp fun σ H R ⟨sl, ρ, hs, hc⟩ => ⟨sl, ρ, hs, (Cfg.bind (Rq := rVs X.K) hc).imp fun vs H1 ⟨ρ1, ds, rs, x, k, c⟩ => by
    obtain ⟨it, e, c⟩ := c.lift
    cases q : int2 ds with
    | none => rw [q] at e; cases e
    | some p =>
      rw [q] at e
      have e : (if -(2 ^ 62) ≤ p.1 ∧ p.1 < 2 ^ 62 ∧ -(2 ^ 62) ≤ p.2 ∧ p.2 < 2 ^ 62 then some (upto p.1 (p.2 - p.1).toNat, ([] : List (Nat × List D))) else none) = some it := e
      by_cases h : -(2 ^ 62) ≤ p.1 ∧ p.1 < 2 ^ 62 ∧ -(2 ^ 62) ≤ p.2 ∧ p.2 < 2 ^ 62
      · rw [if_pos h] at e
        cases e
        have q := int2_of q
        rw [q] at rs
        obtain ⟨v, w, rfl, rv, rw'⟩ := reps2 rs
        cases rv
        cases rw'
        exact ⟨p.1, p.2, rfl, h, c.ok (Itr p.1 (p.2 - p.1).toNat) (show rIt (gx X tb) H1 ρ1 (Itr p.1 (p.2 - p.1).toNat) (upto p.1 (p.2 - p.1).toNat, []) from walk_r p.1 _)⟩
      · rw [if_neg h] at e; cases e⟩
end
/-! ## list displays from loops: comprehensions -/
open Classical in
noncomputable def lcTurn (g : Tgt) (t : Sl → Cm Bool) (e : Sl → Cm D) (gs : List (Nat × List D)) (sl0 : Sl) (d : D) (acc : List D) : Cm (List D) := fun μ => match g.go d sl0 with
    | none => none
    | some sl1 => match t sl1 μ with
      | some (.ok true, μ1) => match e sl1 μ1 with
        | some (.ok y, μ2) => if Guard gs μ2 ∧ acc.length < sizeLine then some (.ok (acc ++ [y]), μ2) else none
        | _ => none
      | some (.ok false, μ1) => if Guard gs μ1 then some (.ok acc, μ1) else none
      | _ => none
noncomputable def lcLoop (g : Tgt) (t : Sl → Cm Bool) (e : Sl → Cm D) (gs : List (Nat × List D)) (sl0 : Sl) : List D → List D → Cm (List D)
  | [], acc => Cm.ok acc
  | d :: ds, acc => (lcTurn g t e gs sl0 d acc).bind fun acc' => lcLoop g t e gs sl0 ds acc'
theorem bind_of {α β : Type} {m : Cm α} {f : α → Cm β} {μ μ1 : Mu} {a : α} (h : m μ = some (.ok a, μ1)) : m.bind f μ = f a μ1 := by unfold Cm.bind; rw [h]
theorem bind_inv {α β : Type} {m : Cm α} {f : α → Cm β} {μ : Mu} {p : R β × Mu} (h : m.bind f μ = some p) : (∃ a μ1, m μ = some (.ok a, μ1) ∧ f a μ1 = some p) ∨ ∃ x μ1, m μ = some (.ex x, μ1) ∧ p = (.ex x, μ1) := by
  unfold Cm.bind at h
  cases e : m μ with
  | none => rw [e] at h; cases h
  | some q =>
    obtain ⟨q, μ1⟩ := q
    rw [e] at h
    cases q with
    | ok a => exact .inl ⟨a, μ1, rfl, h⟩
    | ex x => cases h; exact .inr ⟨x, μ1, rfl, rfl⟩
open Classical in
theorem lcTurn_inv {g : Tgt} {t : Sl → Cm Bool} {e : Sl → Cm D} {gs : List (Nat × List D)} {sl0 : Sl} {d : D} {acc : List D} {μ μ2 : Mu} {q : R (List D)} (h : lcTurn g t e gs sl0 d acc μ = some (q, μ2)) :
    ∃ sl1, g.go d sl0 = some sl1 ∧ ((t sl1 μ = some (.ok false, μ2) ∧ Guard gs μ2 ∧ q = .ok acc) ∨ ∃ μ1 y, t sl1 μ = some (.ok true, μ1) ∧ e sl1 μ1 = some (.ok y, μ2) ∧ (Guard gs μ2 ∧ acc.length < sizeLine) ∧ q = .ok (acc ++ [y])) := by
  unfold lcTurn at h
  cases eg : g.go d sl0 with
  | none => rw [eg] at h; cases h
  | some sl1 =>
    rw [eg] at h
    refine ⟨sl1, rfl, ?_⟩
    simp only at h
    cases et : t sl1 μ with
    | none => rw [et] at h; cases h
    | some p =>
      obtain ⟨qb, μ1⟩ := p
      rw [et] at h
      cases qb with
      | ex x => cases h
      | ok b =>
        cases b with
        | false =>
          simp only at h
          by_cases hG : Guard gs μ1
          · rw [if_pos hG] at h; cases h; exact .inl ⟨rfl, hG, rfl⟩
          · rw [if_neg hG] at h; cases h
        | true =>
          simp only at h
          cases ee : e sl1 μ1 with
          | none => rw [ee] at h; cases h
          | some p2 =>
            obtain ⟨qy, μ3⟩ := p2
            rw [ee] at h
            cases qy with
            | ex x => cases h
            | ok y =>
              simp only at h
              by_cases hG : Guard gs μ3 ∧ acc.length < sizeLine
              · rw [if_pos hG] at h; cases h; exact .inr ⟨μ1, y, rfl, ee, hG, rfl⟩
              · rw [if_neg hG] at h; cases h
def wipeD (sl : Sl) (vs : List Nat) : Sl := vs.foldr (fun v s => s.set v none) sl
def tYesD : Sl → Cm Bool := fun _ => Cm.ok true
open Classical in
/-- [e for target in iter if t]; mk: what becomes of the items -/
noncomputable def eLc (mk : List D → Cm D) (f : Sl → Cm (List D × List (Nat × List D))) (g : Tgt) (t : Sl → Cm Bool) (e : Sl → Cm D) (vs : List Nat) : Sl → Cm D := fun sl => (f sl).bind fun p => fun μ => if Guard p.2 μ then ((lcLoop g t e p.2 (wipeD sl vs) p.1 []).bind mk) μ else none
theorem wipe_st {K : PySem.W.Frag} {H : Hp} {ρ : Rho} {σ : L2.St} {sl : Sl} (r : StRep K H ρ σ sl) : ∀ vs : List Nat, StRep K H ρ (wipe σ vs) (wipeD sl vs)
  | [] => r
  | v :: vs => by
    have ih := wipe_st r vs
    refine ⟨by show ((wipe σ vs).set v none).length = ((wipeD sl vs).set v none).length; rw [List.length_set, List.length_set]; exact ih.len, fun i d e => ?_⟩
    have e : ((wipeD sl vs).set v none)[i]? = some (some d) := e
    show ∃ w, ((wipe σ vs).set v none)[i]? = some (some w) ∧ _
    by_cases hi : v = i
    · subst hi
      have hl : v < (wipeD sl vs).length := by
        have := (List.getElem?_eq_some_iff.mp e).1
        simpa using this
      rw [List.getElem?_set_self hl] at e
      cases e
    · rw [List.getElem?_set_ne hi] at e ⊢
      exact ih.at_ i d e
theorem wipe_at {i : Nat} : ∀ {vs : List Nat} {σ σ' : L2.St}, σ'.length = σ.length → (i ∉ vs → σ'[i]? = σ[i]?) → (wipe σ' vs)[i]? = (wipe σ vs)[i]?
  | [], _, _, _, h => h (by simp)
  | v :: vs, σ, σ', hl, h => by
    show ((wipe σ' vs).set v none)[i]? = ((wipe σ vs).set v none)[i]?
    by_cases hi : v = i
    · subst hi
      rw [List.getElem?_set_self', List.getElem?_set_self']
      have l1 := wipe_length σ vs
      have l2 := wipe_length σ' vs
      by_cases hv : v < σ.length
      · rw [List.getElem?_eq_getElem (by omega), List.getElem?_eq_getElem (by omega)]
        rfl
      · rw [List.getElem?_eq_none (by omega), List.getElem?_eq_none (by omega)]
    · rw [List.getElem?_set_ne hi, List.getElem?_set_ne hi]
      exact wipe_at hl fun hn => h (fun hm => (List.mem_cons.mp hm).elim (fun z => hi z.symm) hn)
theorem wipe_off {ts vs : List Nat} {σ σ2 : L2.St} (o : Off ts (wipe σ vs) σ2) (hs : ∀ i, i ∈ ts → i ∈ vs) : wipe σ2 vs = wipe σ vs := by
  apply List.ext_getElem?
  intro i
  have hl : σ2.length = (wipe σ vs).length := o.1
  by_cases hi : i ∈ vs
  · have h1 : ∀ {τ : L2.St}, i < τ.length → (wipe τ vs)[i]? = some none := by
      intro τ hτ
      have : ∀ {ws : List Nat}, i ∈ ws → (wipe τ ws)[i]? = some none := by
        intro ws
        induction ws with
        | nil => intro h; cases h
        | cons w ws ih =>
          intro h
          show ((wipe τ ws).set w none)[i]? = some none
          by_cases e : w = i
          · subst e
            rw [List.getElem?_set_self (by rw [wipe_length]; exact hτ)]
          · rw [List.getElem?_set_ne e]
            exact ih ((List.mem_cons.mp h).elim (fun z => absurd z.symm e) id)
      exact this hi
    by_cases hlt : i < σ.length
    · rw [h1 (by rw [hl, wipe_length]; exact hlt), h1 hlt]
    · rw [List.getElem?_eq_none (by rw [wipe_length, hl, wipe_length]; omega), List.getElem?_eq_none (by rw [wipe_length]; omega)]
  · rw [wipe_at (i := i) (vs := vs) (σ := σ) (σ' := σ2) (by rw [hl, wipe_length]) fun _ => ?_]
    rw [o.2 i fun z => hi (hs i z)]
    have : ∀ {ws : List Nat}, i ∉ ws → (wipe σ ws)[i]? = σ[i]? := by
      intro ws
      induction ws with
      | nil => intro _; rfl
      | cons w ws ih =>
        intro h
        show ((wipe σ ws).set w none)[i]? = σ[i]?
        rw [List.getElem?_set_ne (fun z => h (by rw [z]; exact List.mem_cons_self))]
        exact ih fun z => h (List.mem_cons_of_mem _ z)
    exact this hi
/-- what becomes of a new list's items -/
abbrev MkF (G : Gx) (mk : List D → Cm D) : Prop := ∀ ρ1 H1 ρf Hf μ1 μf p vs ds r μ', MuRep G H1 ρ1 μ1 → Step G ρ1 H1 ρf Hf μf → Hf p = some (.lst vs) → H1 p = none → p ∈ ρf.rs → DReps G.K Hf ρf vs ds → mk ds μf = some (r, μ') → ∃ d ρ', r = .ok d ∧ Step G ρ1 H1 ρ' Hf μ' ∧ DRep G.K Hf ρ' (.ref p) d
theorem mkf_ls {G : Gx} : MkF G oLs := fun ρ1 H1 ρf Hf μ1 μf p vs ds r μ' m1 st h h1 hp rs e => by
  cases e
  have np := m1.fresh h1
  obtain ⟨m2, q⟩ := resv_data (rs := ρ1.rs) st.mu hp st.ext.sub h np.2 rs
  exact ⟨_, ρf.cut ρ1.rs, rfl, ⟨⟨st.ext.len, st.ext.old, fun a ha => .inl ha, fun a ha => ha⟩, st.keep, m2⟩, q⟩
theorem mkf_mut {G : Gx} : MkF G oMut := fun ρ1 H1 ρf Hf μ1 μf p vs ds r μ' m1 st h h1 hp rs e => by
  unfold oMut at e
  by_cases hl : ds.length ≤ sizeLine
  · rw [if_pos hl] at e
    cases e
    have np := m1.fresh h1
    obtain ⟨m2, q⟩ := resv_live (rs := ρ1.rs) st.mu hp st.ext.sub h np.2 rs
    refine ⟨_, (ρf.cut ρ1.rs).add p, rfl, ⟨⟨?_, fun i a e => ?_, fun a ha => .inl ha, fun a ha => ha⟩, st.keep, m2⟩, q⟩
    · have := st.ext.len
      simp [Rho.add, Rho.cut]
      omega
    · rcases add_at e with q | ⟨q1, q2⟩
      · exact st.ext.old i a q
      · have := st.ext.len
        have q1 : i = ρf.hs.length := q1
        exact .inr ⟨by omega, by rw [q2]; exact h1⟩
  · rw [if_neg hl] at e; cases e
end DL

namespace DL
open PySem PySem.Spec PyProof.Rows L2
/-! ## comprehensions -/
def W0 : WX := fun _ _ _ _ => False
section
variable {X : Cx} {tb : Addr → Prop} {W : WX} {pos : Pos}
open Classical in
theorem rd_lc {mk : List D → Cm D} {f : Sl → Cm (List D × List (Nat × List D))} {g : Tgt} {t : Sl → Cm Bool} {e : Sl → Cm D} {vs : List Nat} (hmk : MkF (gx X tb) mk) (hsub : ∀ i, i ∈ g.ts → i ∈ vs) {σ : L2.St} {H : Hp} {Q : VK}
    (h : rd (gx X tb) (rV X.K) W (eLc mk f g t e vs) σ H Q) : tLc (rd (gx X tb) (rIt (gx X tb)) W f) (rdG (gx X tb) g) (rd (gx X tb) rB W0 t) (rd (gx X tb) (rV X.K) W0 e) vs σ H Q := by
  obtain ⟨sl, ρ, hs, hc⟩ := h
  refine ⟨sl, ρ, hs, (Cfg.bind (Rq := rIt (gx X tb)) hc).imp fun J H1 ⟨ρ1, p, wk, x1, k1, c1⟩ => ?_⟩
  obtain ⟨items, gs⟩ := p
  have wk : WalkD (gx X tb) H1 ρ1 J items gs := wk
  have hs1 : StRep X.K H1 ρ1 σ sl := hs.step x1 k1
  obtain ⟨μ, r, μ', hm, hc, he⟩ := c1
  have hG : Guard gs μ := Classical.byContradiction fun hn => by simp only [if_neg hn] at hc; cases hc
  simp only [if_pos hG] at hc
  intro Dn hDn
  have s0 := resv_new (o := .lst []) hm hDn
  refine ⟨fun i m H' => ∃ ρ' μ1 accV acc, m = items.length - i ∧ i ≤ items.length ∧ Step (gx X tb) ρ1 H1 ρ' H' μ1 ∧ Dn ∈ ρ'.rs ∧ H' Dn = some (.lst accV) ∧ DReps X.K H' ρ' accV acc ∧ Guard gs μ1 ∧ ((lcLoop g t e gs (wipeD sl vs) (items.drop i) acc).bind mk) μ1 = some (r, μ'),
    ⟨items.length, ρ1.resv Dn, μ, [], [], by simp, Nat.zero_le _, s0, List.mem_cons_self, upd_same, .nil, hG, by simpa using hc⟩, ?_⟩
  rintro i m H' ⟨ρ', μ1, accV, acc, rfl, hi, st, hin, hD, rac, hG', hl⟩
  obtain ⟨w1, w2, w3⟩ := wk H' ρ' μ1 st hG'
  by_cases hlt : i < items.length
  · refine .inr ⟨w1 i hlt, fun H2 => ∃ ρ2 μ2 accV acc, Step (gx X tb) ρ1 H1 ρ2 H2 μ2 ∧ Dn ∈ ρ2.rs ∧ H2 Dn = some (.lst accV) ∧ DReps X.K H2 ρ2 accV acc ∧ Guard gs μ2 ∧ ((lcLoop g t e gs (wipeD sl vs) (items.drop (i + 1)) acc).bind mk) μ2 = some (r, μ'),
      fun H2 ⟨ρ2, μ2, a1, a2, b1, b2, b3, b4, b5, b6⟩ => ⟨items.length - (i + 1), by omega, ρ2, μ2, a1, a2, rfl, hlt, b1, b2, b3, b4, b5, b6⟩, fun x H3 y => ?_⟩
    obtain ⟨d, hd⟩ : ∃ d, items[i]? = some d := ⟨items[i], List.getElem?_eq_getElem hlt⟩
    obtain ⟨st3, rx⟩ := w3 i d hd x H3 y
    have st03 := st.trans st3
    have hD3 : H3 Dn = some (.lst accV) := st3.keep.keep _ _ hD (st.mu.res Dn hin).2 trivial
    have rac3 := DReps.step st3.ext st3.keep _ _ rac
    rw [List.drop_eq_getElem_cons hlt] at hl
    have ed : items[i] = d := by rw [List.getElem?_eq_getElem hlt] at hd; exact Option.some.inj hd
    rw [ed] at hl
    have hl : ((lcTurn g t e gs (wipeD sl vs) d acc).bind fun acc' => lcLoop g t e gs (wipeD sl vs) (items.drop (i + 1)) acc').bind mk μ1 = some (r, μ') := hl
    have hl2 : ∃ q μ2, lcTurn g t e gs (wipeD sl vs) d acc μ1 = some (q, μ2) ∧ ∀ acc', q = .ok acc' → ((lcLoop g t e gs (wipeD sl vs) (items.drop (i + 1)) acc').bind mk) μ2 = some (r, μ') := by
      rcases bind_inv hl with ⟨a, μ2, h1, h2⟩ | ⟨x, μ2, h1, h2⟩
      · rcases bind_inv h1 with ⟨b, μ3, h3, h4⟩ | ⟨x, μ3, h3, h4⟩
        · exact ⟨_, μ3, h3, fun acc' z => by cases z; rw [bind_of h4]; exact h2⟩
        · cases h4
      · rcases bind_inv h1 with ⟨b, μ3, h3, h4⟩ | ⟨x, μ3, h3, h4⟩
        · exact ⟨_, μ3, h3, fun acc' z => by cases z; unfold Cm.bind; rw [h4]; exact congrArg some h2.symm⟩
        · exact ⟨_, μ3, h3, fun acc' z => by cases z⟩
    obtain ⟨q, μ3, ht, hrest⟩ := hl2
    obtain ⟨sl1, eg, hcase⟩ := lcTurn_inv ht
    refine ⟨wipeD sl vs, ρ', d, sl1, wipe_st (hs1.step st03.ext st03.keep) vs, rx, eg, fun σ2 hs2 off => ⟨wipe_off off hsub, ?_⟩⟩
    refine ⟨sl1, ρ', hs2, ?_⟩
    rcases hcase with ⟨et, hG2, rfl⟩ | ⟨μ2, y, et, ee, hG3, rfl⟩
    · refine ⟨μ1, .ok false, μ3, st3.mu, et, fun b' H4 ρ4 st4 eb => ?_⟩
      have eb : b' = false := eb
      subst eb
      exact ⟨ρ4, μ3, accV, acc, st03.trans st4, st4.ext.sub _ hin, st4.keep.keep _ _ hD3 (st3.mu.res Dn hin).2 trivial, DReps.step st4.ext st4.keep _ _ rac3, hG2, hrest _ rfl⟩
    · refine ⟨μ1, .ok true, μ2, st3.mu, et, fun b' H4 ρ4 st4 eb => ?_⟩
      have eb : b' = true := eb
      subst eb
      have st04 := st03.trans st4
      have hin4 : Dn ∈ ρ4.rs := st4.ext.sub _ hin
      have hD4 : H4 Dn = some (.lst accV) := st4.keep.keep _ _ hD3 (st3.mu.res Dn hin).2 trivial
      have rac4 := DReps.step st4.ext st4.keep _ _ rac3
      refine ⟨sl1, ρ4, hs2.step st4.ext st4.keep, μ2, .ok y, μ3, st4.mu, ee, fun yv H5 ρ5 st5 ry => ?_⟩
      have st05 := st04.trans st5
      have hin5 : Dn ∈ ρ5.rs := st5.ext.sub _ hin4
      have hD5 : H5 Dn = some (.lst accV) := st5.keep.keep _ _ hD4 (st4.mu.res Dn hin4).2 trivial
      have rac5 := DReps.step st5.ext st5.keep _ _ rac4
      refine ⟨accV, hD5, by rw [rac5.length]; exact hG3.2, ρ5, μ3, accV ++ [yv], acc ++ [y], ⟨st05.ext, ⟨fun b o eb nb tb' => ?_, fun b o eb => ?_⟩, st05.mu.updr hin5 hD5⟩, hin5, upd_same, DReps.updr hin5 _ _ (rac5.append (.cons ry .nil)), hG3.1, hrest _ rfl⟩
      · have ne : b ≠ Dn := ne_of_none eb hDn
        rw [upd_ne ne]; exact st05.keep.keep b o eb nb tb'
      · have ne : b ≠ Dn := ne_of_none eb hDn
        rw [upd_ne ne]; exact st05.keep.dom b o eb
  · have ei : i = items.length := by omega
    subst ei
    refine .inl ⟨w2 _ rfl, ?_⟩
    rw [List.drop_of_length_le (Nat.le_refl _)] at hl
    have hl : mk acc μ1 = some (r, μ') := hl
    obtain ⟨d, ρ2, rfl, st2, rd2⟩ := hmk ρ1 H1 ρ' H' μ μ1 Dn accV acc r μ' hm st hD hDn hin rac hl
    exact he _ H' ρ2 st2 rd2
theorem dts_nil : PTs X [] (rd (gx X tb) rB W tYesD) := ⟨fun pins s σ H Q I ⟨sl, ρ, hs, hc⟩ => pts_nil.run pins s σ H Q I (Cfg.ok (d := true) hc true rfl)⟩
theorem dts_one {c : Expr} {t : Sl → Cm Bool} (h : DT X tb W c t) : PTs X [c] (rd (gx X tb) rB W t) := pts_one h
theorem de_lc {elt tg iter : Expr} {ifs : List Expr} {scope : Scope} {own : List (Str × Nat)} {mk : List D → Cm D} {f : Sl → Cm (List D × List (Nat × List D))} {g : Tgt} {t : Sl → Cm Bool} {e : Sl → Cm D} (hmk : MkF (gx X tb) mk) (hsub : ∀ i, i ∈ g.ts → i ∈ own.map (·.2))
    (hc : X.calm = true) (hN : X.N.Nodup) (hi : DI X tb W tg iter f) (ok : BlkOk X.N X.env.scope scope own)
    (hg : ∀ (s : Shared) (H : Hp) (C : Addr) (cl : List (Str × Addr)) (fp : List Addr), DG (X.blk s H scope (compEnvC scope cl C X.env) fp) tb tg g)
    (ht : ∀ (s : Shared) (H : Hp) (C : Addr) (cl : List (Str × Addr)) (fp : List Addr), PTs (X.blk s H scope (compEnvC scope cl C X.env) fp) ifs (rd (gx X tb) rB W0 t))
    (he : ∀ (s : Shared) (H : Hp) (C : Addr) (cl : List (Str × Addr)) (fp : List Addr), DE (X.blk s H scope (compEnvC scope cl C X.env) fp) tb W0 elt e)
    (hs : ∀ x, foldedSetIterable iter X.env x = pure x := by intro _; rfl) : DE X tb W (.ListComp elt [⟨tg, iter, ifs, 0⟩] scope pos) (eLc mk f g t e (own.map (·.2))) :=
  (pe_lc hc hN hi ok hg ht he hs).imp fun σ H Q h => rd_lc hmk hsub h
/-- y = [..] on one line -/
theorem ds_setLc {i : Nat} {y : Str} {py spos : Pos} {elt tg iter : Expr} {ifs : List Expr} {scope : Scope} {own : List (Str × Nat)} {mk : List D → Cm D} {f : Sl → Cm (List D × List (Nat × List D))} {g : Tgt} {t : Sl → Cm Bool} {e : Sl → Cm D} (hmk : MkF (gx X tb) mk) (hsub : ∀ i, i ∈ g.ts → i ∈ own.map (·.2))
    (hc : X.calm = true) (hN : X.N.Nodup) (hy : X.N[i]? = some y) (hyl : X.env.scope.names.lookup y = some .local) (hsw : swapsWith (.ListComp elt [⟨tg, iter, ifs, 0⟩] scope pos) (some (.Name y py)) spos.line X.env = pure true)
    (hi : DI X tb W tg iter f) (ok : BlkOk X.N X.env.scope scope own)
    (hg : ∀ (s : Shared) (H : Hp) (C : Addr) (cl : List (Str × Addr)) (fp : List Addr), DG (X.blk s H scope (compEnvC scope cl C X.env) fp) tb tg g)
    (ht : ∀ (s : Shared) (H : Hp) (C : Addr) (cl : List (Str × Addr)) (fp : List Addr), PTs (X.blk s H scope (compEnvC scope cl C X.env) fp) ifs (rd (gx X tb) rB W0 t))
    (he : ∀ (s : Shared) (H : Hp) (C : Addr) (cl : List (Str × Addr)) (fp : List Addr), DE (X.blk s H scope (compEnvC scope cl C X.env) fp) tb W0 elt e)
    (hs : ∀ x, foldedSetIterable iter X.env x = pure x := by intro _; rfl) : DS X tb W (.Assign [.Name y py] (.ListComp elt [⟨tg, iter, ifs, 0⟩] scope pos) spos) (sSet i (eLc mk f g t e (own.map (·.2)))) :=
  (ps_setLc hc hN hy hyl hsw hi ok hg ht he hs).imp fun De σ H h => by
    obtain ⟨sl0, ρ0, h1, h2⟩ := rdS.exp (Rq := rV X.K) h
    exact rd_lc hmk hsub ⟨sl0, ρ0, h1, h2.imp fun v H1 ⟨sl, ρ1, d, hs, r, c⟩ => c.nx (hs.set i r)⟩
end
end DL

namespace DL
open PySem PySem.Spec PyProof.Rows L2
/-! ## calls of defs -/
/-! ### what does not speak of the new handles -/
mutual
def D.bel (n : Nat) : D → Prop
  | .non => True | .bl _ => True | .int _ => True | .str _ => True
  | .lst ds => belL n ds | .tup ds => belL n ds | .wtup ds => belL n ds
  | .mref h => h < n
  | .dic _ ds => belL n ds
def belL (n : Nat) : List D → Prop
  | [] => True
  | d :: ds => D.bel n d ∧ belL n ds
end
def MO.bel (n : Nat) : MO → Prop
  | .lst ds => belL n ds
  | .ins _ fs => belL n (fs.map (·.2))
  | .dic _ ds => belL n ds
  | .dit _ ds => belL n ds
mutual
theorem DRep.bel {K : PySem.W.Frag} {H : Hp} {ρ : Rho} : ∀ (d : D) (v : V), DRep K H ρ v d → d.bel ρ.hs.length
  | .non, _, _ => trivial
  | .bl _, _, _ => trivial
  | .int _, _, _ => trivial
  | .str _, _, _ => trivial
  | .lst ds, _, r => by cases r with | lst h rs => exact DReps.belL ds _ rs
  | .tup ds, _, r => by cases r with | tup h rs => exact DReps.belL ds _ rs
  | .wtup ds, _, r => by cases r with | wtup h rs => exact DReps.belL ds _ rs
  | .mref h, _, r => by cases r with | mref h1 h2 => exact h1
  | .dic _ ds, _, r => by cases r with | dic h n l rs => exact DReps.belL ds _ rs
theorem DReps.belL {K : PySem.W.Frag} {H : Hp} {ρ : Rho} : ∀ (ds : List D) (vs : List V), DReps K H ρ vs ds → DL.belL ρ.hs.length ds
  | [], _, _ => trivial
  | d :: ds, _, r => by cases r with | cons a b => exact ⟨DRep.bel d _ a, DReps.belL ds _ b⟩
end
/-- the handles from n on are given up -/
def Rho.low (ρ : Rho) (n : Nat) : Rho := ⟨ρ.hs.take n, ρ.rs⟩
theorem low_not {ρ : Rho} {n : Nat} {a : Addr} (h : NotHd ρ a) : NotHd (ρ.low n) a := fun i e => by
  have e : (ρ.hs.take n)[i]? = some (some a) := e
  rw [List.getElem?_take] at e
  split at e
  · exact h i e
  · cases e
mutual
theorem DRep.low {K : PySem.W.Frag} {H : Hp} {ρ : Rho} {n : Nat} (hn : n ≤ ρ.hs.length) : ∀ (d : D) (v : V), d.bel n → DRep K H ρ v d → DRep K H (ρ.low n) v d
  | .non, _, _, r => by cases r; exact .non
  | .bl b, _, _, r => by cases r; exact .bl b
  | .int i, _, _, r => by cases r; exact .int i
  | .str x, _, _, r => by cases r; exact .str x
  | .lst ds, _, b, r => by cases r with | lst h rs => exact .lst ⟨h.1, low_not h.2.1, h.2.2⟩ (DReps.low hn ds _ b rs)
  | .tup ds, _, b, r => by cases r with | tup h rs => exact .tup (h.elim (fun z => .inl ⟨z.1, low_not z.2.1, z.2.2⟩) .inr) (DReps.low hn ds _ b rs)
  | .wtup ds, _, b, r => by cases r with | wtup h rs => exact .wtup ⟨h.1, low_not h.2.1, h.2.2⟩ (DReps.low hn ds _ b rs)
  | .mref h, _, b, r => by
    have b : h < n := b
    cases r with
    | mref h1 h2 =>
      refine .mref (by show h < (ρ.hs.take n).length; rw [List.length_take]; omega) fun a' e => h2 a' ?_
      have e : (ρ.hs.take n)[h]? = some (some a') := e
      rw [List.getElem?_take, if_pos b] at e
      exact e
  | .dic ks ds, _, b, r => by cases r with | dic h n' l rs => exact .dic h ⟨low_not n'.1, n'.2⟩ l (DReps.low hn ds _ b rs)
theorem DReps.low {K : PySem.W.Frag} {H : Hp} {ρ : Rho} {n : Nat} (hn : n ≤ ρ.hs.length) : ∀ (ds : List D) (vs : List V), DL.belL n ds → DReps K H ρ vs ds → DReps K H (ρ.low n) vs ds
  | [], _, _, r => by cases r; exact .nil
  | d :: ds, _, b, r => by cases r with | cons x y => exact .cons (DRep.low hn d _ b.1 x) (DReps.low hn ds _ b.2 y)
end
/-- the objects below n are those of before, or speak of such alone -/
def MuLow (n : Nat) (μ μ' : Mu) : Prop := ∀ h mo, h < n → μ'[h]? = some (some mo) → μ[h]? = some (some mo) ∨ mo.bel n
theorem MORep.low {K : PySem.W.Frag} {mg : Str → Option Value} {H : Hp} {ρ : Rho} {n : Nat} {a : Addr} (hn : n ≤ ρ.hs.length) : ∀ {mo : MO}, mo.bel n → MORep K mg H ρ a mo → MORep K mg H (ρ.low n) a mo
  | .lst ds, b, ⟨vs, h1, h2⟩ => ⟨vs, h1, DReps.low hn ds vs b h2⟩
  | .ins _ _, b, ⟨C, dx, vs, h0, h1, h2, h3⟩ => ⟨C, dx, vs, h0, h1, h2, DReps.low hn _ vs b h3⟩
  | .dic _ ds, b, ⟨vs, h1, h2, h3⟩ => ⟨vs, h1, h2, DReps.low hn ds vs b h3⟩
  | .dit _ ds, b, ⟨vs, h1, h2, h3⟩ => ⟨vs, h1, h2, DReps.low hn ds vs b h3⟩
theorem MORep.bel {K : PySem.W.Frag} {mg : Str → Option Value} {H : Hp} {ρ : Rho} {a : Addr} : ∀ {mo : MO}, MORep K mg H ρ a mo → mo.bel ρ.hs.length
  | .lst ds, ⟨vs, h1, h2⟩ => DReps.belL ds vs h2
  | .ins _ _, ⟨C, dx, vs, h0, h1, h2, h3⟩ => DReps.belL _ vs h3
  | .dic _ ds, ⟨vs, h1, h2, h3⟩ => DReps.belL ds vs h3
  | .dit _ ds, ⟨vs, h1, h2, h3⟩ => DReps.belL ds vs h3
theorem low_ext {ρ ρ' : Rho} {H : Hp} (x : Ext ρ H ρ') : Ext ρ H (ρ'.low ρ.hs.length) := by
  refine ⟨by show _ ≤ (ρ'.hs.take _).length; rw [List.length_take]; have := x.len; omega, fun h a e => ?_, x.res, x.sub⟩
  have e : (ρ'.hs.take ρ.hs.length)[h]? = some (some a) := e
  rw [List.getElem?_take] at e
  split at e
  · exact x.old h a e
  · cases e
theorem low_step {G : Gx} {ρ ρ' : Rho} {H H' : Hp} {μ μ' : Mu} (m : MuRep G H ρ μ) (s : Step G ρ H ρ' H' μ') (b : MuLow μ.length μ μ') : Step G ρ H (ρ'.low μ.length) H' (μ'.take μ.length) := by
  have hl := m.len
  rw [← hl] at b ⊢
  have hn := s.ext.len
  have m' := s.mu
  refine ⟨low_ext s.ext, s.keep, ⟨?_, fun h mo e => ?_, fun h a e => ?_, fun h h' a e1 e2 => ?_, fun a ha => ⟨(m'.res a ha).1, low_not (m'.res a ha).2⟩, m'.tb⟩⟩
  · show (ρ'.hs.take _).length = _
    rw [List.length_take, List.length_take, m'.len]
  · rw [List.getElem?_take] at e
    split at e
    · rename_i hlt
      obtain ⟨a, e1, e2⟩ := m'.at_ h mo e
      refine ⟨a, by show (ρ'.hs.take _)[h]? = _; rw [List.getElem?_take, if_pos hlt]; exact e1, ?_⟩
      refine MORep.low hn ?_ e2
      rcases b h mo hlt e with q | q
      · obtain ⟨a0, _, r⟩ := m.at_ h mo q; exact r.bel
      · exact q
    · cases e
  · have e : (ρ'.hs.take ρ.hs.length)[h]? = some (some a) := e
    rw [List.getElem?_take] at e
    split at e
    · rename_i hlt
      obtain ⟨mo, e1⟩ := m'.dead h a e
      exact ⟨mo, by rw [List.getElem?_take, if_pos hlt]; exact e1⟩
    · cases e
  · have e1 : (ρ'.hs.take ρ.hs.length)[h]? = some (some a) := e1
    have e2 : (ρ'.hs.take ρ.hs.length)[h']? = some (some a) := e2
    rw [List.getElem?_take] at e1 e2
    split at e1
    · split at e2
      · exact m'.inj h h' a e1 e2
      · cases e2
    · cases e1
/-! ### a def's meaning -/
/-- what a result is behind the call: a living list that was made within is data -/
def cutV (n : Nat) (μ' : Mu) (d : D) (d' : D) : Prop := (d' = d ∧ d.bel n) ∨ (∃ h ds, d = .mref h ∧ n ≤ h ∧ μ'[h]? = some (some (.lst ds)) ∧ belL n ds ∧ d' = .lst ds)
theorem cutV_rep {G : Gx} {ρ ρ' : Rho} {H H' : Hp} {n : Nat} {μ' : Mu} {d d' : D} {v : V} (hn : n ≤ ρ'.hs.length) (m : MuRep G H' ρ' μ') (c : cutV n μ' d d') (r : DRep G.K H' ρ' v d) : DRep G.K H' (ρ'.low n) v d' := by
  rcases c with ⟨rfl, b⟩ | ⟨h, ds, rfl, hge, e, b, rfl⟩
  · exact DRep.low hn _ _ b r
  · obtain ⟨a, e1, vs, e2, e3⟩ := m.at_ h _ e
    cases r with
    | mref h1 h2 =>
      have := h2 a e1
      subst this
      refine .lst ⟨.inl e2, fun i q => ?_, fun q => ?_⟩ (DReps.low hn ds vs b e3)
      · have q : (ρ'.hs.take n)[i]? = some (some a) := q
        rw [List.getElem?_take] at q
        split at q
        · have := m.inj i h a q e1
          omega
        · cases q
      · exact (m.res a q).2 h e1
def outR : SR → Option (R D)
  | .nx _ => some (.ok .non)
  | .rt d => some (.ok d)
  | .ex x _ => some (.ex x)
  | _ => none
def st0 (m : Nat) (ds : List D) : Sl := ds.map some ++ List.replicate (m - ds.length) none
open Classical in
/-- the body's meaning, as a call's; the handles made within are given up -/
noncomputable def denC (m : Nat) (f : Sl → CS) : List D → Cm D := fun ds μ => match f (st0 m ds) μ with
  | none => none
  | some (r, μ') => if MuLow μ.length μ μ' then (match outR r with
    | some (.ok d) => if h : ∃ d', cutV μ.length μ' d d' then some (.ok h.choose, μ'.take μ.length) else none
    | some (.ex x) => if x.arg.bel μ.length then some (.ex x, μ'.take μ.length) else none
    | none => none) else none
/-- as it is; the handles made within stay -/
def denK (m : Nat) (f : Sl → CS) : List D → Cm D := fun ds μ => match f (st0 m ds) μ with
  | none => none
  | some (r, μ') => match outR r with
    | some q => some (q, μ')
    | none => none
def spD (G : Gx) (n : Nat) (den : List D → Cm D) : Sp := fun vs H Q E => ∃ ρ ds, DReps G.K H ρ vs ds ∧ ds.length = n ∧ Cfg G (rV G.K) (fun c d H' => E c d H') ρ H (den ds) Q
theorem st0_rep {K : PySem.W.Frag} {H : Hp} {ρ : Rho} {vs : List V} {ds : List D} {N : List Str} (r : DReps K H ρ vs ds) : StRep K H ρ (L2.start N vs) (st0 N.length ds) := by
  have hl := r.length
  refine ⟨by unfold L2.start st0; simp [hl], fun i d e => ?_⟩
  unfold st0 at e
  by_cases hi : i < ds.length
  · rw [List.getElem?_append_left (by simpa using hi), List.getElem?_map] at e
    have e2 : ds[i]? = some d := by
      cases q : ds[i]? with
      | none => rw [q] at e; cases e
      | some d0 => rw [q] at e; simp at e; rw [e]
    obtain ⟨v, h1, h2⟩ := r.get e2
    refine ⟨v, ?_, h2⟩
    unfold L2.start
    rw [List.getElem?_append_left (by simpa [hl] using hi), List.getElem?_map, h1]
    rfl
  · rw [List.getElem?_append_right (by simpa using Nat.le_of_not_lt hi)] at e
    rw [List.getElem?_replicate] at e
    split at e <;> cases e
theorem end_k {G : Gx} {m : Nat} {f : Sl → CS} {ρ : Rho} {H : Hp} {ds : List D} {Q : VK} {E : XK} (h : Cfg G (rV G.K) (fun c d H' => E c d H') ρ H (denK m f ds) Q) : CfgS G (fun c d _ H' => E c d H') { nx := fun _ H' => Q .non H', rt := Q } ρ H (f (st0 m ds)) := by
  obtain ⟨μ, r, μ', hm, hc, he⟩ := h
  unfold denK at hc
  cases e : f (st0 m ds) μ with
  | none => rw [e] at hc; cases hc
  | some p =>
    obtain ⟨q, μ1⟩ := p
    rw [e] at hc
    refine ⟨μ, q, μ1, hm, e, ?_⟩
    cases q with
    | nx sl => cases hc; exact fun σ' H' ρ' st rr => he .non H' ρ' st .non
    | rt d => cases hc; exact fun v H' ρ' st rr => he v H' ρ' st rr
    | ex x sl => cases hc; exact fun cls dd σ' H' ρ' st rr xx => he cls dd H' ρ' st xx
    | bk sl => cases hc
    | ct sl => cases hc
theorem ExRep.low {G : Gx} {H : Hp} {ρ : Rho} {n : Nat} {cls : Value} {dd : Option Addr} {x : Exn} (hn : n ≤ ρ.hs.length) (b : x.arg.bel n) (r : ExRep G H ρ cls dd x) : ExRep G H (ρ.low n) cls dd x := by
  obtain ⟨C, d, v, h1, h2, h3, h4, h5⟩ := r.ex
  exact ⟨C, d, v, h1, h2, h3, h4, DRep.low hn _ _ b h5⟩
theorem end_c {G : Gx} {m : Nat} {f : Sl → CS} {ρ : Rho} {H : Hp} {ds : List D} {Q : VK} {E : XK} (h : Cfg G (rV G.K) (fun c d H' => E c d H') ρ H (denC m f ds) Q) : CfgS G (fun c d _ H' => E c d H') { nx := fun _ H' => Q .non H', rt := Q } ρ H (f (st0 m ds)) := by
  obtain ⟨μ, r, μ', hm, hc, he⟩ := h
  unfold denC at hc
  cases e : f (st0 m ds) μ with
  | none => rw [e] at hc; cases hc
  | some p =>
    obtain ⟨q, μ1⟩ := p
    rw [e] at hc
    simp only at hc
    by_cases hb : MuLow μ.length μ μ1
    · rw [if_pos hb] at hc
      refine ⟨μ, q, μ1, hm, e, ?_⟩
      have hlen : ∀ {ρ' : Rho} {H' : Hp}, Step G ρ H ρ' H' μ1 → μ.length ≤ ρ'.hs.length := fun st => by have := st.ext.len; rw [hm.len] at this; exact this
      cases q with
      | nx sl =>
        simp only [outR] at hc
        split at hc
        · rename_i hx
          have hd := hx.choose_spec
          rcases hd with ⟨hd, _⟩ | ⟨_, _, hd, _⟩
          · rw [hd] at hc
            cases hc
            exact fun σ' H' ρ' st rr => he .non H' _ (low_step hm st hb) .non
          · cases hd
        · cases hc
      | rt d =>
        simp only [outR] at hc
        split at hc
        · rename_i hx
          have hd := hx.choose_spec
          cases hc
          exact fun v H' ρ' st rr => he v H' _ (low_step hm st hb) (cutV_rep (ρ := ρ) (H := H) (hlen st) st.mu hd rr)
        · cases hc
      | ex x sl =>
        simp only [outR] at hc
        split at hc
        · rename_i hx
          cases hc
          exact fun cls dd σ' H' ρ' st rr xx => he cls dd H' _ (low_step hm st hb) (xx.low (hlen st) hx)
        · cases hc
      | bk sl => cases hc
      | ct sl => cases hc
    · rw [if_neg hb] at hc; cases hc
section
variable {P : Program} {w : World} {K : PySem.W.Frag} {mg : Str → Option Value} {base : Heap} {tb : Addr → Prop}
/-- a def keeps its meaning -/
theorem fn_okC {x qual : Str} {st : Stmt} {f : Addr} {fd : FuncData} {N ps : List Str} {k : Nat} {g : Sl → CS} (F : Fun K x qual st f fd) (S : FnScope N ps (defScope st))
    (hbody : ∀ (cdv : Value) (A : Around) (outer : List Env) (s : Shared) (H : Hp) (E : XK), Room k (A.deeper (envOfC qual (defScope st) s.heap.objs.size f cdv)) →
      DSs (cxOf (L2.CX P w) P w K mg base N qual (defScope st) f cdv A outer s H E) tb (fun c d _ H' => E c d H') (defBody st) g) : FnOk P w K mg base (L2.CX P w) (k + 1) f fd ps (spD ⟨K, mg, tb⟩ ps.length (denC N.length g)) := by
  refine F.okX S (fun vs H Q E h => ?_) (fun cdv A outer s H vs Q E hr h => ⟨_, hbody cdv A outer s H E hr, ?_⟩)
  · obtain ⟨ρ, ds, r, hl, _⟩ := h
    rw [r.length, hl]
  · obtain ⟨ρ, ds, r, hl, c⟩ := h
    exact ⟨st0 N.length ds, ρ, st0_rep r, end_c c⟩
theorem fn_okK {x qual : Str} {st : Stmt} {f : Addr} {fd : FuncData} {N ps : List Str} {k : Nat} {g : Sl → CS} (F : Fun K x qual st f fd) (S : FnScope N ps (defScope st))
    (hbody : ∀ (cdv : Value) (A : Around) (outer : List Env) (s : Shared) (H : Hp) (E : XK), Room k (A.deeper (envOfC qual (defScope st) s.heap.objs.size f cdv)) →
      DSs (cxOf (L2.CX P w) P w K mg base N qual (defScope st) f cdv A outer s H E) tb (fun c d _ H' => E c d H') (defBody st) g) : FnOk P w K mg base (L2.CX P w) (k + 1) f fd ps (spD ⟨K, mg, tb⟩ ps.length (denK N.length g)) := by
  refine F.okX S (fun vs H Q E h => ?_) (fun cdv A outer s H vs Q E hr h => ⟨_, hbody cdv A outer s H E hr, ?_⟩)
  · obtain ⟨ρ, ds, r, hl, _⟩ := h
    rw [r.length, hl]
  · obtain ⟨ρ, ds, r, hl, c⟩ := h
    exact ⟨st0 N.length ds, ρ, st0_rep r, end_k c⟩
/-- another meaning, which says less -/
theorem spD_imp {f : Addr} {fd : FuncData} {ps : List Str} {k n : Nat} {CX : CXT} {d1 d2 : List D → Cm D} {G : Gx} (F : FnOk P w K mg base CX k f fd ps (spD G n d1)) (h : ∀ ds μ r, ds.length = n → d2 ds μ = some r → d1 ds μ = some r) : FnOk P w K mg base CX k f fd ps (spD G n d2) :=
  F.imp fun vs H Q E ⟨ρ, ds, r, hl, μ, q, μ', hm, hc, he⟩ => ⟨ρ, ds, r, hl, μ, q, μ', hm, h ds μ _ hl hc, he⟩
end
section
variable {X : Cx} {tb : Addr → Prop} {W : WX} {pos : Pos} {k n : Nat} {f : Addr} {fd : FuncData} {ps : List Str} {den : List D → Cm D}
/-- a call by position -/
def oCall (n : Nat) (den : List D → Cm D) (ds : List D) : Cm D := if ds.length = n then den ds else Cm.fail
theorem de_call {x : Str} {p : Pos} {e : Expr} {es : List Expr} {fs : Sl → Cm (List D)} (F : FnOk X.prog X.w X.K X.mg X.base (L2.CX X.prog X.w) k f fd ps (spD (gx X tb) n den)) (hr : Room k X.A) (hg : Gl X x) (hm : X.mg x = some (.ref f)) (hk : PySem.W.keepIn X.K (.ref f) = true) (hb : Binds X.K fd ps []) (tk : Takes X W)
    (ha : DA X tb W (e :: es) fs) (hdb : (x == ("__debug__" : Str)) = false := by decide) (he : starEach (e :: es) X.env = (false, eval e X.env) :: starEach es X.env := by rfl) (hpl : (backTo pos (starEach es X.env)).any (·.1) = false := by rfl) :
    DE X tb W (.Call (.Name x p) (e :: es) [] pos) (eCB (oCall n den) fs) :=
  (pe_callS F hr hg hm hk hb (fun σ => passAt tk σ) ha hdb he hpl).imp fun σ H Q ⟨sl, ρ, hs, hc⟩ => ⟨sl, ρ, hs, (Cfg.bind (Rq := rVs X.K) hc).imp fun vs H1 ⟨ρ1, ds, rs, x, kk, c⟩ => by
    unfold oCall at c
    by_cases hl : ds.length = n
    · rw [if_pos hl] at c
      exact ⟨ρ1, ds, rs, hl, c⟩
    · rw [if_neg hl] at c; exact c.fails.elim⟩
end
end DL

namespace DL
open PySem PySem.Spec PyProof.Rows L2
/-! ## built-ins -/
def eNo {α : Type} : Sl → Cm α := fun _ => Cm.fail
def sNo : Sl → CS := fun _ _ => none
section
variable {X : Cx} {tb : Addr → Prop} {W : WX} {pos : Pos}
/-- what is never reached -/
theorem ds_never {st : Stmt} : DS X tb W st sNo := ⟨fun p s σ H D I ⟨sl, ρ, hs, μ, r, μ', hm, hc, he⟩ => by cases hc⟩
theorem dss_never {st : List Stmt} : DSs X tb W st sNo := ⟨fun p s σ H D I ⟨sl, ρ, hs, μ, r, μ', hm, hc, he⟩ => by cases hc⟩
theorem de_never {e : Expr} : DE X tb W e eNo := ⟨fun p s σ H D I ⟨sl, ρ, hs, hc⟩ => hc.fails.elim⟩
end
theorem look_inv {α : Type} {f : Mu → Option α} {μ μ1 : Mu} {r : R α} (h : Cm.look f μ = some (r, μ1)) : ∃ a, f μ = some a ∧ r = .ok a ∧ μ1 = μ := by
  unfold Cm.look at h
  cases e : f μ with
  | none => rw [e] at h; cases h
  | some a => rw [e] at h; cases h; exact ⟨a, rfl, rfl, rfl⟩
theorem lift_inv {α : Type} {o : Option α} {μ μ1 : Mu} {r : R α} (h : Cm.lift o μ = some (r, μ1)) : ∃ a, o = some a ∧ r = .ok a ∧ μ1 = μ := by
  unfold Cm.lift at h
  cases o with
  | none => cases h
  | some a => cases h; exact ⟨a, rfl, rfl, rfl⟩
/-! ### len -/
def lenD (μ : Mu) : D → Option Nat
  | .str x => if x.length ≤ sizeLine then some x.length else none
  | d => (dLT μ d).map (·.length)
def oLen : List D → Cm D
  | [d] => Cm.look fun μ => (lenD μ d).map fun n : Nat => D.int (n : Int)
  | _ => Cm.fail
theorem sem_len {G : Gx} : SemC G oLen (fun xs H Q => ∃ x n, xs = [x] ∧ LenV G.K x H n ∧ Q (.int n) H) := by
  intro W ρ H xs ds Q rs c
  match ds, rs, c with
  | [d], rs, c =>
    obtain ⟨v, rfl, r⟩ := reps1 rs
    obtain ⟨μ, d', hm, e, c⟩ := Cfg.look (f := fun μ => (lenD μ d).map fun n : Nat => D.int (n : Int)) c
    have seq : ∀ xs, dLT μ d = some xs → d' = .int xs.length → ∃ x n, [v] = [x] ∧ LenV G.K x H n ∧ Q (.int n) H := by
      intro xs e1 e2
      obtain ⟨a, vs, rfl, h1, r1⟩ := hm.dLT r e1
      refine ⟨_, xs.length, rfl, ?_, ?_⟩
      · rcases h1 with h1 | h1
        · exact .inl ⟨vs, h1, r1.length.symm⟩
        · exact .inr ⟨vs, h1, r1.length.symm⟩
      · rw [e2] at c; exact c.ok _ (.int _)
    have gen : lenD μ d = (dLT μ d).map (·.length) → ∃ x n, [v] = [x] ∧ LenV G.K x H n ∧ Q (.int n) H := by
      intro z
      rw [z] at e
      cases e1 : dLT μ d with
      | none => rw [e1] at e; cases e
      | some xs => rw [e1] at e; cases e; exact seq xs e1 rfl
    cases d with
    | str x =>
      cases r
      have e : (if x.length ≤ sizeLine then some x.length else none).map (fun n : Nat => D.int (n : Int)) = some d' := e
      by_cases hl : x.length ≤ sizeLine
      · rw [if_pos hl] at e
        cases e
        exact ⟨_, x.length, rfl, ⟨hl, rfl⟩, c.ok _ (.int _)⟩
      · rw [if_neg hl] at e; cases e
    | _ => exact gen rfl
  | [], _, c => exact c.fails.elim
  | _ :: _ :: _, _, c => exact c.fails.elim
/-! ### min, max of two ints -/
def oMin2 : List D → Cm D
  | [.int i, .int j] => Cm.ok (.int (if j < i then j else i))
  | _ => Cm.fail
theorem sem_min2 {G : Gx} : SemC G oMin2 (fun xs H Q => ∃ i j, xs = [.int i, .int j] ∧ Q (.int (if j < i then j else i)) H) := by
  intro W ρ H xs ds Q rs c
  unfold oMin2 at c
  split at c
  · obtain ⟨v, w, rfl, r1, r2⟩ := reps2 rs
    cases r1; cases r2
    exact ⟨_, _, rfl, c.ok _ (.int _)⟩
  · exact c.fails.elim
def oMax2 : List D → Cm D
  | [.int i, .int j] => Cm.ok (.int (if j > i then j else i))
  | _ => Cm.fail
theorem sem_max2 {G : Gx} : SemC G oMax2 (fun xs H Q => ∃ i j, xs = [.int i, .int j] ∧ Q (.int (if j > i then j else i)) H) := by
  intro W ρ H xs ds Q rs c
  unfold oMax2 at c
  split at c
  · obtain ⟨v, w, rfl, r1, r2⟩ := reps2 rs
    cases r1; cases r2
    exact ⟨_, _, rfl, c.ok _ (.int _)⟩
  · exact c.fails.elim
/-! ### lists of ints -/
def intsD : List D → Option (List Int)
  | [] => some []
  | .int i :: ds => (intsD ds).map (i :: ·)
  | _ => none
theorem ints_rep {K : PySem.W.Frag} {H : Hp} {ρ : Rho} : ∀ {ds : List D} {ns : List Int} {vs : List V}, intsD ds = some ns → DReps K H ρ vs ds → vs = ns.map V.int
  | [], _, _, e, r => by cases r; cases e; rfl
  | .int i :: ds, ns, _, e, r => by
    cases r with
    | cons a b =>
      cases a
      unfold intsD at e
      cases e1 : intsD ds with
      | none => rw [e1] at e; cases e
      | some ms => rw [e1] at e; cases e; rw [ints_rep e1 b]; rfl
  | .non :: _, _, _, e, _ => by cases e
  | .bl _ :: _, _, _, e, _ => by cases e
  | .str _ :: _, _, _, e, _ => by cases e
  | .lst _ :: _, _, _, e, _ => by cases e
  | .tup _ :: _, _, _, e, _ => by cases e
  | .mref _ :: _, _, _, e, _ => by cases e
  | .dic _ _ :: _, _, _, e, _ => by cases e
  | .wtup _ :: _, _, _, e, _ => by cases e
def oSumL : List D → Cm D
  | [d] => Cm.look fun μ => (dL μ d).bind fun xs => (intsD xs).map fun ns => .int ns.sum
  | _ => Cm.fail
theorem Rd.seq {K : PySem.W.Frag} {H : Hp} {a : Addr} {xs : List V} (h : Rd H a (.lst xs)) : SqL K H a xs := .inl h
theorem sem_sumL {G : Gx} : SemC G oSumL (rSum G.K) := by
  intro W ρ H xs ds Q rs c
  match ds, rs, c with
  | [d], rs, c =>
    obtain ⟨v, rfl, r⟩ := reps1 rs
    obtain ⟨μ, d', hm, e, c⟩ := Cfg.look (f := fun μ => (dL μ d).bind fun xs => (intsD xs).map fun ns => D.int ns.sum) c
    cases e1 : dL μ d with
    | none => rw [e1] at e; cases e
    | some xs =>
      rw [e1] at e
      have e : (intsD xs).map (fun ns => D.int ns.sum) = some d' := e
      cases e2 : intsD xs with
      | none => rw [e2] at e; cases e
      | some ns =>
        rw [e2] at e
        cases e
        obtain ⟨a, vs, rfl, h1, r1⟩ := hm.dL r e1
        have := ints_rep e2 r1
        subst this
        exact ⟨a, ns, rfl, Rd.seq h1, c.ok _ (.int _)⟩
  | [], _, c => exact c.fails.elim
  | _ :: _ :: _, _, c => exact c.fails.elim
/-- the least -/
def lMin : List Int → Option Int
  | [] => none
  | [x] => some x
  | x :: y :: r => (lMin (y :: r)).map fun m => if m < x then m else x
theorem lMin_is : ∀ {ns : List Int} {m : Int}, lMin ns = some m → m ∈ ns ∧ ∀ y, y ∈ ns → m ≤ y
  | [], _, e => by cases e
  | [x], m, e => by cases e; exact ⟨List.mem_singleton.mpr rfl, fun y h => by rw [List.mem_singleton.mp h]; exact Int.le_refl _⟩
  | x :: y :: r, m, e => by
    have e : (lMin (y :: r)).map (fun m => if m < x then m else x) = some m := e
    cases e1 : lMin (y :: r) with
    | none => rw [e1] at e; cases e
    | some k =>
      rw [e1] at e
      obtain ⟨h1, h2⟩ := lMin_is e1
      cases e
      by_cases hk : k < x
      · show (if k < x then k else x) ∈ _ ∧ _
        simp only [if_pos hk]
        refine ⟨List.mem_cons_of_mem _ h1, fun z hz => ?_⟩
        rcases List.mem_cons.mp hz with q | q
        · rw [q]; omega
        · exact h2 z q
      · simp only [if_neg hk]
        refine ⟨List.mem_cons_self, fun z hz => ?_⟩
        rcases List.mem_cons.mp hz with q | q
        · rw [q]; exact Int.le_refl _
        · have := h2 z q; omega
def oMinL : List D → Cm D
  | [d] => Cm.look fun μ => (dL μ d).bind fun xs => (intsD xs).bind fun ns => (lMin ns).map .int
  | _ => Cm.fail
theorem sem_minL {G : Gx} : SemC G oMinL (rMin G.K) := by
  intro W ρ H xs ds Q rs c
  match ds, rs, c with
  | [d], rs, c =>
    obtain ⟨v, rfl, r⟩ := reps1 rs
    obtain ⟨μ, d', hm, e, c⟩ := Cfg.look (f := fun μ => (dL μ d).bind fun xs => (intsD xs).bind fun ns => (lMin ns).map D.int) c
    cases e1 : dL μ d with
    | none => rw [e1] at e; cases e
    | some xs =>
      rw [e1] at e
      have e : (intsD xs).bind (fun ns => (lMin ns).map D.int) = some d' := e
      cases e2 : intsD xs with
      | none => rw [e2] at e; cases e
      | some ns =>
        rw [e2] at e
        have e : (lMin ns).map D.int = some d' := e
        cases e3 : lMin ns with
        | none => rw [e3] at e; cases e
        | some k =>
          rw [e3] at e
          cases e
          obtain ⟨a, vs, rfl, h1, r1⟩ := hm.dL r e1
          have := ints_rep e2 r1
          subst this
          obtain ⟨i1, i2⟩ := lMin_is e3
          refine ⟨a, ns, rfl, Rd.seq h1, List.length_pos_of_mem i1, fun m j1 j2 => ?_⟩
          have : m = k := Int.le_antisymm (j2 k i1) (i2 m j1)
          rw [this]
          exact c.ok _ (.int _)
  | [], _, c => exact c.fails.elim
  | _ :: _ :: _, _, c => exact c.fails.elim
/-! ### divmod -/
instance (i j : Int) : Decidable (CDivP i j) := by unfold CDivP; infer_instance
def oDivmod : List D → Cm D
  | [.int i, .int j] => if CDivP i j then Cm.ok (.wtup [.int (i / j), .int (i % j)]) else Cm.fail
  | _ => Cm.fail
theorem sem_divmod {G : Gx} : SemC G oDivmod (fun xs H Q => ∃ i j, xs = [.int i, .int j] ∧ CDivP i j ∧ ∀ p, H p = none → Q (.ref p) (upd H p (.tup [.int (i / j), .int (i % j)]))) := by
  intro W ρ H xs ds Q rs c
  unfold oDivmod at c
  split at c
  · rename_i i j
    obtain ⟨v, w, rfl, r1, r2⟩ := reps2 rs
    cases r1; cases r2
    by_cases hc : CDivP i j
    · rw [if_pos hc] at c
      exact ⟨_, _, rfl, hc, c.newW (.cons (.int _) (.cons (.int _) .nil))⟩
    · rw [if_neg hc] at c; exact c.fails.elim
  · exact c.fails.elim
/-! ### int, str of an int -/
def oIntOf : List D → Cm D
  | [.int i] => Cm.ok (.int i)
  | [.bl k] => Cm.ok (.int (if k then 1 else 0))
  | _ => Cm.fail
theorem sem_int {G : Gx} : SemC G oIntOf (fun xs H Q => (∃ i, xs = [.int i] ∧ Q (.int i) H) ∨ ∃ k, xs = [.bl k] ∧ Q (.int (if k then 1 else 0)) H) := by
  intro W ρ H xs ds Q rs c
  unfold oIntOf at c
  split at c
  · obtain ⟨v, rfl, r1⟩ := reps1 rs
    cases r1
    exact .inl ⟨_, rfl, c.ok _ (.int _)⟩
  · obtain ⟨v, rfl, r1⟩ := reps1 rs
    cases r1
    exact .inr ⟨_, rfl, c.ok _ (.int _)⟩
  · exact c.fails.elim
def oStrOf : List D → Cm D
  | [.int i] => if i.natAbs.log2 < 1920 then Cm.ok (.str (toString i)) else Cm.fail
  | _ => Cm.fail
theorem sem_str {G : Gx} : SemC G oStrOf (fun xs H Q => ∃ i : Int, xs = [.int i] ∧ i.natAbs.log2 < 1920 ∧ Q (.str (toString i)) H) := by
  intro W ρ H xs ds Q rs c
  unfold oStrOf at c
  split at c
  · rename_i i
    obtain ⟨v, rfl, r1⟩ := reps1 rs
    cases r1
    by_cases hc : i.natAbs.log2 < 1920
    · rw [if_pos hc] at c; exact ⟨_, rfl, hc, c.ok _ (.str _)⟩
    · rw [if_neg hc] at c; exact c.fails.elim
  · exact c.fails.elim
/-! ### list(xs), tuple(xs) -/
def oListOf (mk : List D → Cm D) : List D → Cm D
  | [d] => (Cm.look fun μ => dLT μ d).bind mk
  | _ => Cm.fail
theorem sem_list {G : Gx} {mk : List D → Cm D} (hmk : MkL G mk) : SemC G (oListOf mk) (fun xs H Q => ∃ p ys, xs = [.ref p] ∧ (SqL G.K H p ys ∨ SqT G.K H p ys) ∧ ∀ l, H l = none → Q (.ref l) (upd H l (.lst ys))) := by
  intro W ρ H xs ds Q rs c
  match ds, rs, c with
  | [d], rs, c =>
    obtain ⟨v, rfl, r⟩ := reps1 rs
    obtain ⟨μ, q, μ', hm, hc, he⟩ := c
    rcases bind_inv hc with ⟨xs, μ1, h1, h2⟩ | ⟨x, μ1, h1, h2⟩
    · obtain ⟨ys, e, e2, rfl⟩ := look_inv h1
      cases e2
      obtain ⟨a, vs, rfl, h3, r1⟩ := hm.dLT r e
      exact ⟨a, vs, rfl, h3, hmk W ρ H vs xs Q r1 ⟨_, q, μ', hm, h2, he⟩⟩
    · obtain ⟨ys, e, e2, rfl⟩ := look_inv h1
      cases e2
  | [], _, c => exact c.fails.elim
  | _ :: _ :: _, _, c => exact c.fails.elim
def oTupOf : List D → Cm D
  | [d] => Cm.look fun μ => (dLT μ d).map .tup
  | _ => Cm.fail
theorem sem_tuple {G : Gx} : SemC G oTupOf (rTupS G.K) := by
  intro W ρ H xs ds Q rs c
  match ds, rs, c with
  | [d], rs, c =>
    obtain ⟨v, rfl, r⟩ := reps1 rs
    obtain ⟨μ, d', hm, e, c⟩ := Cfg.look (f := fun μ => (dLT μ d).map D.tup) c
    cases e1 : dLT μ d with
    | none => rw [e1] at e; cases e
    | some ys =>
      rw [e1] at e
      cases e
      have lst : dL μ d = some ys → rTupS G.K [v] H Q := fun e2 => by
        obtain ⟨a, vs, rfl, h1, r1⟩ := hm.dL r e2
        exact ⟨a, vs, rfl, .inl ⟨Rd.seq h1, c.newT r1⟩⟩
      cases d with
      | tup zs =>
        cases e1
        have r0 := r
        cases r with | tup i ri => exact ⟨_, _, rfl, .inr ⟨i.seq, c.ok _ r0⟩⟩
      | lst zs => exact lst e1
      | mref h => exact lst e1
      | _ => cases e1
  | [], _, c => exact c.fails.elim
  | _ :: _ :: _, _, c => exact c.fails.elim
/-! ### isinstance -/
def tyD (μ : Mu) : D → Option String
  | .non => some "NoneType" | .bl _ => some "bool" | .int _ => some "int" | .str _ => some "str"
  | .lst _ => some "list" | .tup _ => some "tuple" | .dic _ _ => some "dict" | .wtup _ => none
  | .mref h => (dL μ (.mref h)).map fun _ => "list"
theorem ty_rep {G : Gx} {H : Hp} {ρ : Rho} {μ : Mu} (m : MuRep G H ρ μ) {v : V} {d : D} {T : String} (r : DRep G.K H ρ v d) (e : tyD μ d = some T) : TyX G.K H v (.type T) := by
  have ls : ∀ {a vs}, Rd H a (.lst vs) → TyX G.K H (.ref a) (.type "list") := fun h => by
    rcases h with h | ⟨o, h⟩
    · exact .base (.lst h)
    · exact .base (.frz h)
  cases d with
  | non => cases r; cases e; exact .base .non
  | bl b => cases r; cases e; exact .base (.bl _)
  | int i => cases r; cases e; exact .base (.int _)
  | str x => cases r; cases e; exact .base (.str _)
  | lst ds => cases r with | lst i rs => cases e; exact ls i.1
  | tup ds =>
    cases r with
    | tup i rs =>
      cases e
      rcases i with ⟨⟨o, i, _⟩, _⟩ | ⟨o, its, n, h1, h2, _⟩
      · exact .fTuple i
      · exact .kTuple h1 h2
  | dic ks ds => cases r with | dic h n l rs => cases e; exact .base (.dK h)
  | wtup ds => cases e
  | mref h =>
    have e : (dL μ (.mref h)).map (fun _ => "list") = some T := e
    cases e1 : dL μ (.mref h) with
    | none => rw [e1] at e; cases e
    | some xs =>
      rw [e1] at e; cases e
      obtain ⟨a, vs, rfl, h1, _⟩ := m.dL r e1
      exact ls h1
def oIsi (T : String) (d : D) : Cm D := Cm.look fun μ => (tyD μ d).bind fun t => (kitB t T).map .bl
def kitBs (t : String) : List String → Option Bool
  | [] => some false
  | T :: Ts => (kitB t T).bind fun b => if b = true then some true else kitBs t Ts
theorem kitBs_any {K : PySem.W.Frag} {t : String} : ∀ {Ts : List String} {b : Bool}, kitBs t Ts = some b → PySem.W.kitAny K (.type t) (Ts.map Value.type) = some b
  | [], _, e => by cases e; rfl
  | T :: Ts, b, e => by
    have e : (kitB t T).bind (fun b => if b = true then some true else kitBs t Ts) = some b := e
    cases e1 : kitB t T with
    | none => rw [e1] at e; cases e
    | some c =>
      rw [e1] at e
      have e : (if c = true then some true else kitBs t Ts) = some b := e
      refine kitAny_cons (kit_ty e1) (fun z => ?_) fun z => ?_
      · rw [z] at e; exact kitBs_any e
      · rw [z] at e; cases e; rfl
def oIsiT (Ts : List String) (d : D) : Cm D := Cm.look fun μ => (tyD μ d).bind fun t => (kitBs t Ts).map .bl
section
variable {X : Cx} {tb : Addr → Prop} {W : WX} {pos : Pos}
theorem pe_ty {x : Str} {T : String} {p : Pos} (hg : Gl X x) (hm : X.mg x = none) (hv : bootBuiltins x = some (.type T)) (hn : x ≠ "__name__" := by decide) (hd : (x == ("__debug__" : Str)) = false := by decide) : PE X (.Name x p) (tC (.ty T)) :=
  ⟨fun pins s σ H Q I h => ld_blt I hg hm hv ⟨.ty T, H, I, rfl, h⟩ hn hd⟩
theorem de_isi {x : Str} {e : Expr} {f : Sl → Cm D} {T : String} {p p2 : Pos} (hg : Gl X "isinstance") (hm : X.mg "isinstance" = none) (hgT : Gl X x) (hmT : X.mg x = none) (hvT : bootBuiltins x = some (.type T)) (he : DE X tb W e f)
    (hn : x ≠ "__name__" := by decide) (hd : (x == ("__debug__" : Str)) = false := by decide)
    (hs : starEach [e, .Name x p2] X.env = (false, eval e X.env) :: starEach [.Name x p2] X.env := by rfl) (hs2 : starEach [.Name x p2] X.env = (false, eval (.Name x p2) X.env) :: starEach [] X.env := by rfl) (hpl : (backTo pos (starEach [.Name x p2] X.env)).any (·.1) = false := by rfl) :
    DE X tb W (.Call (.Name "isinstance" p) [e, .Name x p2] [] pos) (eUn (oIsi T) f) :=
  (pe_callB (x := "isinstance") call_isi hg hm PyProof.Rows.Boot.«isinstance» (pa_cons he (pa_cons (pe_ty hgT hmT hvT hn hd) pa_nil hs2) hs) (by decide) (by decide) hs hpl).imp fun σ H Q ⟨sl, ρ, hs, hc⟩ => ⟨sl, ρ, hs, (Cfg.bind (Rq := rV X.K) hc).imp fun v H1 ⟨ρ1, d, r, xx, k, c⟩ => by
    obtain ⟨μ, d', hm, e, c⟩ := Cfg.look (f := fun μ => (tyD μ d).bind fun t => (kitB t T).map D.bl) c
    cases e1 : tyD μ d with
    | none => rw [e1] at e; cases e
    | some t =>
      rw [e1] at e
      have e : (kitB t T).map D.bl = some d' := e
      cases e2 : kitB t T with
      | none => rw [e2] at e; cases e
      | some b =>
        rw [e2] at e
        cases e
        exact ⟨v, .ty T, _, _, b, rfl, .ty T, ty_rep hm r e1, kit_ty e2, c.ok _ (.bl _)⟩⟩
end
end DL

namespace DL
open PySem PySem.Spec PyProof.Rows L2
/-! ## living lists change -/
theorem NotHd.ne {ρ : Rho} {a p : Addr} {h : Nat} (n : NotHd ρ a) (hp : ρ.hs[h]? = some (some p)) : a ≠ p := fun e => n h (by rw [e]; exact hp)
mutual
theorem DRep.updm {K : PySem.W.Frag} {H : Hp} {ρ : Rho} {p : Addr} {o : HO} {h : Nat} (hp : ρ.hs[h]? = some (some p)) : ∀ (d : D) (v : V), DRep K H ρ v d → DRep K (upd H p o) ρ v d
  | .non, _, r => by cases r; exact .non
  | .bl b, _, r => by cases r; exact .bl b
  | .int i, _, r => by cases r; exact .int i
  | .str x, _, r => by cases r; exact .str x
  | .lst ds, _, r => by cases r with | lst h rs => exact .lst ⟨Rd.upd h.1 (h.2.1.ne hp), h.2⟩ (DReps.updm hp ds _ rs)
  | .tup ds, _, r => by cases r with | tup h rs => exact .tup (h.elim (fun z => .inl ⟨StT.upd z.1 (z.2.1.ne hp), z.2⟩) .inr) (DReps.updm hp ds _ rs)
  | .wtup ds, _, r => by cases r with | wtup h rs => exact .wtup ⟨Rd.upd h.1 (h.2.1.ne hp), h.2⟩ (DReps.updm hp ds _ rs)
  | .mref h, _, r => by cases r with | mref h1 h2 => exact .mref h1 h2
  | .dic ks ds, _, r => by cases r with | dic h n l rs => exact .dic (by rw [upd_ne (n.1.ne hp)]; exact h) n l (DReps.updm hp ds _ rs)
theorem DReps.updm {K : PySem.W.Frag} {H : Hp} {ρ : Rho} {p : Addr} {o : HO} {h : Nat} (hp : ρ.hs[h]? = some (some p)) : ∀ (ds : List D) (vs : List V), DReps K H ρ vs ds → DReps K (upd H p o) ρ vs ds
  | [], _, r => by cases r; exact .nil
  | d :: ds, _, r => by cases r with | cons a b => exact .cons (DRep.updm hp d _ a) (DReps.updm hp ds _ b)
end
theorem mut_upd {G : Gx} {H : Hp} {ρ : Rho} {μ : Mu} {p : Addr} {h : Nat} {xs ys : List V} {es : List D} (m : MuRep G H ρ μ) (hp : ρ.hs[h]? = some (some p)) (hx : H p = some (.lst xs)) (r : DReps G.K H ρ ys es) :
    Step G ρ H ρ (upd H p (.lst ys)) (μ.set h (some (.lst es))) := by
  have hlt : h < μ.length := by rw [← m.len]; exact (List.getElem?_eq_some_iff.mp hp).1
  refine ⟨.refl _ _, ⟨fun b o e n t => by rw [upd_ne (n.ne hp)]; exact e, fun b o e => ?_⟩, ⟨by rw [List.length_set]; exact m.len, fun i mo e => ?_, fun i a e => ?_, m.inj, fun a ha => ?_, fun P hP => ?_⟩⟩
  · by_cases hb : b = p
    · exact ⟨_, by rw [hb]; exact upd_same⟩
    · exact ⟨o, by rw [upd_ne hb]; exact e⟩
  · by_cases hi : h = i
    · subst hi
      rw [List.getElem?_set_self hlt] at e
      cases e
      exact ⟨p, hp, ys, upd_same, DReps.updm hp es ys r⟩
    · rw [List.getElem?_set_ne hi] at e
      obtain ⟨a, e1, e2⟩ := m.at_ i mo e
      have ne : a ≠ p := fun z => hi (m.inj h i p hp (by rw [← z]; exact e1))
      refine ⟨a, e1, ?_⟩
      cases mo with
      | lst ds => obtain ⟨vs, h1, h2⟩ := e2; exact ⟨vs, by rw [upd_ne ne]; exact h1, DReps.updm hp ds vs h2⟩
      | ins c fs => obtain ⟨C, dx, vs, h0, h1, h2, h3⟩ := e2; exact ⟨C, dx, vs, h0, by rw [upd_ne ne]; exact h1, h2, DReps.updm hp _ vs h3⟩
      | dic ks ds => obtain ⟨vs, h1, h2, h3⟩ := e2; exact ⟨vs, by rw [upd_ne ne]; exact h1, h2, DReps.updm hp ds vs h3⟩
      | dit ks ds => obtain ⟨vs, h1, h2, h3⟩ := e2; exact ⟨vs, by rw [upd_ne ne]; exact h1, h2, DReps.updm hp ds vs h3⟩
  · by_cases hi : h = i
    · subst hi; exact ⟨_, List.getElem?_set_self hlt⟩
    · obtain ⟨mo, e1⟩ := m.dead i a e
      exact ⟨mo, by rw [List.getElem?_set_ne hi]; exact e1⟩
  · obtain ⟨⟨o, h1⟩, h2⟩ := m.res a ha
    exact ⟨⟨o, by rw [upd_ne (h2.ne hp)]; exact h1⟩, h2⟩
  · obtain ⟨ps, h1, h2⟩ := m.tb P hP
    exact ⟨ps, by rw [upd_ne (ne_of h1 hx (fun z => by cases z))]; exact h1, h2⟩
theorem MuRep.lst2 {G : Gx} {H : Hp} {ρ : Rho} {μ : Mu} (m : MuRep G H ρ μ) {v : V} {h : Nat} {xs : List D} (r : DRep G.K H ρ v (.mref h)) (e : μ[h]? = some (some (.lst xs))) :
    ∃ a vs, v = .ref a ∧ ρ.hs[h]? = some (some a) ∧ H a = some (.lst vs) ∧ DReps G.K H ρ vs xs := by
  obtain ⟨a, e1, vs, e2, e3⟩ := m.at_ h _ e
  cases r with
  | mref h1 h2 =>
    have := h2 a e1
    subst this
    exact ⟨_, vs, rfl, e1, e2, e3⟩
/-- a change of the living list at h -/
def oMu (h : Nat) (g : List D → Option (List D × D)) : Cm D := fun μ => match μ[h]? with
  | some (some (.lst xs)) => match g xs with
    | some (ys, d) => some (.ok d, μ.set h (some (.lst ys)))
    | none => none
  | _ => none
theorem oMu_inv {h : Nat} {g : List D → Option (List D × D)} {μ μ' : Mu} {r : R D} (e : oMu h g μ = some (r, μ')) : ∃ xs ys d, μ[h]? = some (some (.lst xs)) ∧ g xs = some (ys, d) ∧ r = .ok d ∧ μ' = μ.set h (some (.lst ys)) := by
  unfold oMu at e
  split at e
  · rename_i xs hx
    split at e
    · rename_i ys d hg
      cases e
      exact ⟨xs, ys, d, hx, hg, rfl, rfl⟩
    · cases e
  · cases e
/-! ## methods -/
def eBM (ck : Mu → D → Bool) (o : D → List D → Cm D) (fo : Sl → Cm D) (fs : Sl → Cm (List D)) : Sl → Cm D := fun sl => (fo sl).bind fun x => (Cm.look fun μ => if ck μ x = true then some x else none).bind fun x => (fs sl).bind fun ys => o x ys
abbrev SemM (G : Gx) (o : D → List D → Cm D) (r : V → List V → Hp → VK → Prop) : Prop := ∀ (W : Value → Option Addr → Hp → Prop) ρ H x dx xs ds Q, DRep G.K H ρ x dx → DReps G.K H ρ xs ds → Cfg G (rV G.K) W ρ H (o dx ds) Q → r x xs H Q
abbrev CkT (G : Gx) (ck : Mu → D → Bool) (T : String) : Prop := ∀ H ρ μ v d, MuRep G H ρ μ → DRep G.K H ρ v d → ck μ d = true → tyV G.K T v H
theorem rd_bm {X : Cx} {tb : Addr → Prop} {W : WX} {ck : Mu → D → Bool} {T : String} {o : D → List D → Cm D} {r : V → List V → Hp → VK → Prop} (hck : CkT (gx X tb) ck T) (sem : SemM (gx X tb) o r) {fo : Sl → Cm D} {fs : Sl → Cm (List D)} {σ : L2.St} {H : Hp} {Q : VK}
    (h : rd (gx X tb) (rV X.K) W (eBM ck o fo fs) σ H Q) : tBM X.K T r (rd (gx X tb) (rV X.K) W fo) (rd (gx X tb) (rVs X.K) W fs) σ H Q := by
  obtain ⟨sl, ρ, hs, hc⟩ := h
  refine ⟨sl, ρ, hs, (Cfg.bind (Rq := rV X.K) hc).imp fun v H1 ⟨ρ1, d, rv, x1, k1, c1⟩ => ?_⟩
  have look : ∃ μ, MuRep (gx X tb) H1 ρ1 μ ∧ ck μ d = true ∧ Cfg (gx X tb) (rV X.K) (fun c d H' => W c d σ H') ρ1 H1 ((fs sl).bind fun ys => o d ys) Q := by
    obtain ⟨μ, q, μ', hm, hc, he⟩ := c1
    rcases bind_inv hc with ⟨x, μ1, h1, h2⟩ | ⟨x, μ1, h1, h2⟩
    · obtain ⟨a, e1, e2, rfl⟩ := look_inv h1
      cases e2
      by_cases hk : ck μ1 d = true
      · rw [if_pos hk] at e1; cases e1
        exact ⟨_, hm, hk, _, q, μ', hm, h2, he⟩
      · rw [if_neg hk] at e1; cases e1
    · obtain ⟨a, e1, e2, _⟩ := look_inv h1
      cases e2
  obtain ⟨μ, hm, hk, c2⟩ := look
  refine ⟨hck H1 ρ1 μ v d hm rv hk, sl, ρ1, hs.step x1 k1, (Cfg.bind (Rq := rVs X.K) c2).imp fun vs H2 ⟨ρ2, ds, rs, x2, k2, c3⟩ => ?_⟩
  exact sem _ ρ2 H2 v d vs ds Q (DRep.step x2 k2 d v rv) rs c3
def ckL (μ : Mu) (d : D) : Bool := (dL μ d).isSome
def ckS (μ : Mu) : D → Bool
  | .str _ => true
  | _ => false
theorem ckL_ok {G : Gx} : CkT G ckL "list" := fun H ρ μ v d m r e => by
  unfold ckL at e
  cases e1 : dL μ d with
  | none => rw [e1] at e; cases e
  | some xs =>
    obtain ⟨a, vs, rfl, h1, _⟩ := m.dL r e1
    exact .inl ⟨rfl, vs, Rd.seq h1⟩
theorem ckS_ok {G : Gx} : CkT G ckS "str" := fun H ρ μ v d m r e => by
  cases d with
  | str x => cases r; rfl
  | _ => cases e
def oAppend : D → List D → Cm D
  | .mref h, [y] => oMu h fun xs => if xs.length < sizeLine then some (xs ++ [y], .non) else none
  | _, _ => Cm.fail
theorem sem_append {G : Gx} : SemM G oAppend rAppend := by
  intro W ρ H x dx xs ds Q rx rs c
  unfold oAppend at c
  split at c
  · obtain ⟨w, rfl, rw'⟩ := reps1 rs
    obtain ⟨μ, q, μ', hm, hc, he⟩ := c
    obtain ⟨zs, ys, d, e1, e2, rfl, rfl⟩ := oMu_inv hc
    obtain ⟨a, vs, rfl, h1, h2, h3⟩ := hm.lst2 rx e1
    by_cases hl : zs.length < sizeLine
    · rw [if_pos hl] at e2
      cases e2
      exact ⟨a, vs, w, rfl, rfl, h2, by rw [h3.length]; exact hl, he _ _ ρ (mut_upd hm h1 h2 (h3.append (.cons rw' .nil))) .non⟩
    · rw [if_neg hl] at e2; cases e2
  · exact c.fails.elim
def oPopAt : D → List D → Cm D
  | .mref h, [.int i] => oMu h fun xs => if -(2 ^ 63) ≤ i ∧ i < 2 ^ 63 then (seqIndex? i xs.length).bind fun k => (xs[k]?).map fun y => (xs.eraseIdx k, y) else none
  | _, _ => Cm.fail
theorem DReps.erase {K : PySem.W.Frag} {H : Hp} {ρ : Rho} : ∀ (n : Nat) {vs : List V} {ds : List D}, DReps K H ρ vs ds → DReps K H ρ (vs.eraseIdx n) (ds.eraseIdx n)
  | _, _, _, .nil => .nil
  | 0, _, _, .cons _ r => r
  | n + 1, _, _, .cons a r => .cons a (DReps.erase n r)
theorem sem_popAt {G : Gx} : SemM G oPopAt rPopAt := by
  intro W ρ H x dx xs ds Q rx rs c
  unfold oPopAt at c
  split at c
  · rename_i h i
    obtain ⟨w, rfl, rw'⟩ := reps1 rs
    cases rw'
    obtain ⟨μ, q, μ', hm, hc, he⟩ := c
    obtain ⟨zs, ys, d, e1, e2, rfl, rfl⟩ := oMu_inv hc
    obtain ⟨a, vs, rfl, h1, h2, h3⟩ := hm.lst2 rx e1
    by_cases hl : -(2 ^ 63) ≤ i ∧ i < 2 ^ 63
    · rw [if_pos hl] at e2
      cases e3 : seqIndex? i zs.length with
      | none => rw [e3] at e2; cases e2
      | some k =>
        rw [e3] at e2
        have e2 : (zs[k]?).map (fun y => (zs.eraseIdx k, y)) = some (ys, d) := e2
        cases e4 : zs[k]? with
        | none => rw [e4] at e2; cases e2
        | some y =>
          rw [e4] at e2
          cases e2
          obtain ⟨v, e5, e6⟩ := h3.get e4
          have s := mut_upd hm h1 h2 (h3.erase k)
          exact ⟨a, vs, i, k, v, rfl, rfl, h2, hl.1, hl.2, by rw [h3.length]; exact e3, e5, he _ _ ρ s (DRep.updm h1 _ _ e6)⟩
    · rw [if_neg hl] at e2; cases e2
  · exact c.fails.elim
def oCountS : D → List D → Cm D
  | .str a, [.str b] => Cm.ok (.int (Txt.count a b))
  | _, _ => Cm.fail
theorem sem_countS {G : Gx} : SemM G oCountS (fun x xs H Q => ∃ a b, x = .str a ∧ xs = [.str b] ∧ Q (.int (Txt.count a b)) H) := by
  intro W ρ H x dx xs ds Q rx rs c
  unfold oCountS at c
  split at c
  · obtain ⟨w, rfl, rw'⟩ := reps1 rs
    cases rw'; cases rx
    exact ⟨_, _, rfl, rfl, c.ok _ (.int _)⟩
  · exact c.fails.elim
def strsD : List D → Option (List Str)
  | [] => some []
  | .str i :: ds => (strsD ds).map (i :: ·)
  | _ => none
theorem strs_rep {K : PySem.W.Frag} {H : Hp} {ρ : Rho} : ∀ {ds : List D} {ns : List Str} {vs : List V}, strsD ds = some ns → DReps K H ρ vs ds → vs = ns.map V.str
  | [], _, _, e, r => by cases r; cases e; rfl
  | .str i :: ds, ns, _, e, r => by
    cases r with
    | cons a b =>
      cases a
      unfold strsD at e
      cases e1 : strsD ds with
      | none => rw [e1] at e; cases e
      | some ms => rw [e1] at e; cases e; rw [strs_rep e1 b]; rfl
  | .non :: _, _, _, e, _ => by cases e
  | .bl _ :: _, _, _, e, _ => by cases e
  | .int _ :: _, _, _, e, _ => by cases e
  | .lst _ :: _, _, _, e, _ => by cases e
  | .tup _ :: _, _, _, e, _ => by cases e
  | .mref _ :: _, _, _, e, _ => by cases e
  | .dic _ _ :: _, _, _, e, _ => by cases e
  | .wtup _ :: _, _, _, e, _ => by cases e
def oJoin : D → List D → Cm D
  | .str a, [d] => Cm.look fun μ => (dLT μ d).bind fun xs => (strsD xs).bind fun ys => if (ys.map (·.length)).sum + ys.length * a.length ≤ 16777216 then some (.str (Txt.join a ys)) else none
  | _, _ => Cm.fail
theorem sem_join {G : Gx} : SemM G oJoin (fun x xs H Q => ∃ a p, ∃ ys : List Str, x = .str a ∧ xs = [.ref p] ∧ (SqL G.K H p (ys.map V.str) ∨ SqT G.K H p (ys.map V.str)) ∧ (ys.map (·.length)).sum + ys.length * a.length ≤ 16777216 ∧ Q (.str (Txt.join a ys)) H) := by
  intro W ρ H x dx xs ds Q rx rs c
  unfold oJoin at c
  split at c
  · rename_i a d
    obtain ⟨w, rfl, rw'⟩ := reps1 rs
    cases rx
    obtain ⟨μ, d', hm, e, c⟩ := c.look
    cases e1 : dLT μ d with
    | none => rw [e1] at e; cases e
    | some zs =>
      rw [e1] at e
      have e : (strsD zs).bind (fun ys => if (ys.map (·.length)).sum + ys.length * a.length ≤ 16777216 then some (D.str (Txt.join a ys)) else none) = some d' := e
      cases e2 : strsD zs with
      | none => rw [e2] at e; cases e
      | some ys =>
        rw [e2] at e
        have e : (if (ys.map (·.length)).sum + ys.length * a.length ≤ 16777216 then some (D.str (Txt.join a ys)) else none) = some d' := e
        by_cases hl : (ys.map (·.length)).sum + ys.length * a.length ≤ 16777216
        · rw [if_pos hl] at e
          cases e
          obtain ⟨p, vs, rfl, h1, r1⟩ := hm.dLT rw' e1
          have := strs_rep e2 r1
          subst this
          exact ⟨a, p, ys, rfl, rfl, h1, hl, c.ok _ (.str _)⟩
        · rw [if_neg hl] at e; cases e
  · exact c.fails.elim
section
variable {X : Cx} {tb : Addr → Prop} {W : WX} {pos : Pos}
theorem de_bm {T id : String} {name : Str} {apos cpos : Pos} {ck : Mu → D → Bool} {o : D → List D → Cm D} {r : V → List V → Hp → VK → Prop} {ob e : Expr} {es : List Expr} {fo : Sl → Cm D} {fs : Sl → Cm (List D)} (pa : PlainAttrs T) (slot : Slot T name id) (hty : typeOf (.builtin id) = pure (.type "method_descriptor")) (hm : MtR X id r)
    (hck : CkT (gx X tb) ck T) (sem : SemM (gx X tb) o r) (ho : DE X tb W ob fo) (ha : DA X tb W (e :: es) fs)
    (hbase : attributeBase ob name X.env (eval ob X.env) = eval ob X.env := by rfl)
    (hfew : ((backTo cpos (starEach (e :: es) X.env)).all (fun x => !x.1) && (backToKw cpos (keywordEach [] X.env)).all (fun x => x.1.isSome)
      && decide ((e :: es).length + ([] : List Keyword).length + (if ([] : List Keyword).isEmpty then 0 else 1) < 30)) = true := by rfl)
    (hline : (apos.endLine == cpos.line) = true := by rfl) (hs : starEach (e :: es) X.env = (false, eval e X.env) :: starEach es X.env := by rfl) (hplain : (backTo cpos (starEach es X.env)).any (·.1) = false := by rfl) :
    DE X tb W (.Call (.Attribute ob name apos) (e :: es) [] cpos) (eBM ck o fo fs) :=
  (pe_bm pa slot hty hm ho ha hbase hfew hline hs hplain).imp fun σ H Q h => rd_bm hck sem h
/-! ## x op= e, xs[i] = e -/
theorem oI2_inv {G : Gx} {C : Int → Int → Prop} [∀ i j, Decidable (C i j)] {g : Int → Int → D} {x y : D} {V0 : Value → Option Addr → Hp → Prop} {ρ : Rho} {H : Hp} {Q : VK} (c : Cfg G (rV G.K) V0 ρ H (oI2 C g x y) Q) :
    ∃ i j, x = .int i ∧ y = .int j ∧ C i j ∧ Cfg G (rV G.K) V0 ρ H (Cm.ok (g i j)) Q := by
  unfold oI2 at c
  split at c
  · rename_i i j
    by_cases hc : C i j
    · rw [if_pos hc] at c; exact ⟨i, j, rfl, rfl, hc, c⟩
    · rw [if_neg hc] at c; exact c.fails.elim
  · exact c.fails.elim
def oSetIx (o i v : D) : Cm D := match o, i with
  | .mref h, .int k => oMu h fun xs => (ixN xs.length k).map fun j => (xs.set j v, .non)
  | _, _ => Cm.fail
theorem oSetIx_inv {G : Gx} {o i v : D} {V0 : Value → Option Addr → Hp → Prop} {ρ : Rho} {H : Hp} {Q : VK} (c : Cfg G (rV G.K) V0 ρ H (oSetIx o i v) Q) :
    ∃ h k, o = .mref h ∧ i = .int k ∧ Cfg G (rV G.K) V0 ρ H (oMu h fun xs => (ixN xs.length k).map fun j => (xs.set j v, .non)) Q := by
  unfold oSetIx at c
  split at c
  · exact ⟨_, _, rfl, rfl, c⟩
  · exact c.fails.elim
def sAug (i : Nat) (o : D → D → Cm D) (f : Sl → Cm D) : Sl → CS := sExp (fun sl => (Cm.lift (sl[i]?.bind id)).bind fun x => (f sl).bind fun y => o x y) fun d sl => sNx (sl.set i (some d))
theorem ds_aug {i : Nat} {x : Str} {e : Expr} {op : Operator} {g : Int → Int → Int} {pos' : Pos} {f : Sl → Cm D} (hip : PIp X op (ipI g)) (hN : X.N.Nodup) (hi : X.N[i]? = some x) (hx : Loc X.env.scope x) (he : DE X tb W e f)
    (hf : X.fn x = true ∨ X.env.scope.names.lookup x = some .local := by first | exact .inl rfl | exact .inr rfl | assumption) : DS X tb W (.AugAssign (.Name x pos') op e pos) (sAug i (oI2 (fun _ _ => True) fun a b => .int (g a b)) f) :=
  (ps_aug hN hi hx he hip hf).imp fun De σ H h => by
    obtain ⟨sl0, ρ0, h1, h2⟩ := rdS.exp (Rq := rV X.K) h
    obtain ⟨d0, e0, c0⟩ : ∃ d0, sl0[i]?.bind id = some d0 ∧ Cfg (gx X tb) (rV X.K) (fun c d H' => W c d σ H') ρ0 H ((f sl0).bind fun y => oI2 (fun _ _ => True) (fun a b => .int (g a b)) d0 y) (fun v H1 => ∃ sl ρ1 d, StRep X.K H1 ρ1 σ sl ∧ rV X.K H1 ρ1 v d ∧ CfgS (gx X tb) W De ρ1 H1 (sNx (sl.set i (some d)))) := by
      obtain ⟨μ, q, μ', hm, hc, hE⟩ := h2
      rcases bind_inv hc with ⟨x, μ1, g1, g2⟩ | ⟨x, μ1, g1, g2⟩
      · obtain ⟨a, e1, e2, rfl⟩ := lift_inv g1
        cases e2
        exact ⟨x, e1, _, q, μ', hm, g2, hE⟩
      · obtain ⟨a, e1, e2, _⟩ := lift_inv g1
        cases e2
    have e' : sl0[i]? = some (some d0) := by
      cases q : sl0[i]? with
      | none => rw [q] at e0; cases e0
      | some o => rw [q] at e0; simp at e0; rw [e0]
    obtain ⟨v0, hv0, r0⟩ := h1.at_ i d0 e'
    refine ⟨v0, hv0, sl0, ρ0, h1, (Cfg.bind (Rq := rV X.K) c0).imp fun y H1 ⟨ρ1, dy, ry, x1, k1, c1⟩ => ?_⟩
    obtain ⟨a, b, rfl, rfl, _, c1⟩ := oI2_inv c1
    have r1 := DRep.step x1 k1 _ _ r0
    cases r1; cases ry
    obtain ⟨sl, ρ2, d, hs2, rd2, c2⟩ := c1.ok (.int (g a b)) (.int _)
    exact ⟨a, b, rfl, rfl, c2.nx (hs2.set i rd2)⟩
def sSetIx (fe fo fi : Sl → Cm D) : Sl → CS := sExp (fun sl => (fe sl).bind fun v => (fo sl).bind fun o => (fi sl).bind fun i => oSetIx o i v) fun _ sl => sNx sl
theorem ds_setIx {o i e : Expr} {fe fo fi : Sl → Cm D} {p : Pos} (he : DE X tb W e fe) (ho : DE X tb W o fo) (hi : DE X tb W i fi)
    (ha : ∀ v, assign (.Subscript o i p) X.env v = (do
      let ov ← holding [v] (eval o X.env)
      let iv ← holding [v, ov] (eval i X.env)
      standAt p
      holding [v, ov, iv] (setItem ov iv v)
      release [v, ov, iv] []) := by intro _; rfl)
    (hs : swapsWithSole [.Subscript o i p] e pos.line X.env = pure false := by rfl) (hw : swappedStores [.Subscript o i p] e X.env = pure none := by rfl)
    (h1 : (assignEach [.Subscript o i p] X.env).map (·.2) = [assign (.Subscript o i p) X.env] := by rfl) : DS X tb W (.Assign [.Subscript o i p] e pos) (sSetIx fe fo fi) :=
  (ps_asg he (pg_sub ho hi set_list ha) hs hw h1).imp fun De σ H h => by
    obtain ⟨sl0, ρ0, h1, h2⟩ := rdS.exp (Rq := rV X.K) h
    refine ⟨sl0, ρ0, h1, (Cfg.bind (Rq := rV X.K) h2).imp fun v H1 ⟨ρ1, d, rv, x1, k1, c1⟩ => ?_⟩
    refine ⟨sl0, ρ1, h1.step x1 k1, (Cfg.bind (Rq := rV X.K) c1).imp fun ov H2 ⟨ρ2, od, ro, x2, k2, c2⟩ => ?_⟩
    refine ⟨sl0, ρ2, (h1.step x1 k1).step x2 k2, (Cfg.bind (Rq := rV X.K) c2).imp fun iv H3 ⟨ρ3, id', ri, x3, k3, c3⟩ => ?_⟩
    have rv3 := DRep.step x3 k3 _ _ (DRep.step x2 k2 _ _ rv)
    have ro3 := DRep.step x3 k3 _ _ ro
    obtain ⟨h, k, rfl, rfl, c3⟩ := oSetIx_inv c3
    · obtain ⟨μ, q, μ', hm, hc, hE⟩ := c3
      obtain ⟨zs, ys, d2, e1, e2, rfl, rfl⟩ := oMu_inv hc
      obtain ⟨a, vs, rfl, g1, g2, g3⟩ := hm.lst2 ro3 e1
      cases ri
      cases e3 : ixN zs.length k with
      | none => rw [e3] at e2; cases e2
      | some j =>
        rw [e3] at e2
        cases e2
        refine ⟨a, vs, k, j, rfl, rfl, g2, by rw [g3.length]; exact e3, ?_⟩
        obtain ⟨sl, ρ4, d4, hs4, _, c4⟩ := hE .non _ ρ3 (mut_upd hm g1 g2 (g3.set rv3 j)) .non
        exact c4.nx hs4
end
end DL

namespace DL
open PySem PySem.Spec PyProof.Rows L2
/-! ## enumerate and zip over lists, tuples, texts -/
def SK.ad : SK → List Addr
  | .l a => [a] | .t a => [a] | .s _ => []
/-- the iterator of such a sequence, at place i -/
def SK.at (t : Tok) (it : Addr) (i : Nat) (h : Heap) : SK → Prop
  | .l a => h.IsListIter it a i
  | .t a => h.IsTupleIter it a i
  | .s x => h.IsStrIter it (strIterType x) x t i
theorem SK.obj {k : SK} {t : Tok} {it : Addr} {i : Nat} {h : Heap} (st : k.at t it i h) : ∃ o, h.get? it = some o ∧ ∀ v, o.data ≠ .cell v := by
  cases k with
  | l a => obtain ⟨o, e, _, d⟩ := st; exact ⟨o, e, fun v z => by rw [d] at z; cases z⟩
  | t a => obtain ⟨o, e, _, d⟩ := st; exact ⟨o, e, fun v z => by rw [d] at z; cases z⟩
  | s x => obtain ⟨o, e, _, d⟩ := st; exact ⟨o, e, fun v z => by rw [d] at z; cases z⟩
theorem SK.keep {k : SK} {t : Tok} {it : Addr} {i : Nat} {h h' : Heap} (st : k.at t it i h) (hk : ∀ o, h.get? it = some o → h'.get? it = some o) : k.at t it i h' := by
  cases k with
  | l a => exact Heap.IsListIter.at st hk
  | t a => exact Heap.IsTupleIter.at st hk
  | s x => obtain ⟨o, e, r⟩ := st; exact ⟨o, hk o e, r⟩
theorem pget {α β : Type} {F : α → β → Prop} : ∀ {xs : List α} {us : List β} {i : Nat} {u : β}, Paired F xs us → us[i]? = some u → ∃ x, xs[i]? = some x ∧ F x u
  | _, _, _, _, .nil, e => by simp at e
  | _, _, 0, _, .cons r _, e => by simp at e; subst e; exact ⟨_, rfl, r⟩
  | _, _, i + 1, u, .cons _ t, e => by
    obtain ⟨x, h1, h2⟩ := pget (i := i) (u := u) t (by simpa using e)
    exact ⟨x, by simpa using h1, h2⟩
/-- what such an iterator draws -/
structure DrK (P : Program) (w : World) (A : Around) (k : SK) (t : Tok) (it : Addr) (vs : List V) (h : Heap) (i : Nat) (n : Nat) (Pi : Nat → Value → Prop) (S : Nat → Heap → Prop) : Prop where
  dr : Draws P w A it (it :: k.ad) n Pi S
  st : S i h
  len : n = vs.length
  val : ∀ v, Pi i v → ∃ x, vs[i]? = some x ∧ RelV x v
  nxt : ∀ h', S (i + 1) h' → k.at t it (i + 1) h'
theorem draws_of {X : Cx} {pins : List (Addr × Obj)} {σ : L2.St} {H : Hp} {s : Shared} {k : SK} {t : Tok} {it : Addr} {i : Nat} {vs : List V} {A : Around} (hA : A.handled = none) (I : Inv X pins σ H s) (hap : ∀ a ∈ k.ad, a ≠ it) (st : k.at t it i s.heap) (q : k.stand X.K H vs) :
    ∃ n Pi S, DrK X.prog X.w A k t it vs s.heap i n Pi S := by
  cases k with
  | l a =>
    obtain ⟨its, rv, p, hz⟩ := I.list q
    refine ⟨_, _, _, Draws.list hA it a (hap a (by simp [SK.ad])) its.toArray, ⟨st, p.isList⟩, ?_, fun v hv => ?_, fun h' x => x.1⟩
    · rw [List.size_toArray, ← rv.length]
    · have hv : its[i]? = some v := by simpa using hv
      obtain ⟨x, h1, h2⟩ := pget rv hv
      exact ⟨x, h1, h2⟩
  | t a =>
    obtain ⟨its, rv, p, hz⟩ := I.tuple q
    refine ⟨_, _, _, Draws.tuple hA it a (hap a (by simp [SK.ad])) its.toArray, ⟨st, p⟩, ?_, fun v hv => ?_, fun h' x => x.1⟩
    · rw [List.size_toArray, ← rv.length]
    · have hv : its[i]? = some v := by simpa using hv
      obtain ⟨x, h1, h2⟩ := pget rv hv
      exact ⟨x, h1, h2⟩
  | s x =>
    have q : vs = x.cps.toList.map fun c => V.str ⟨#[c]⟩ := q
    refine ⟨_, _, _, Draws.text hA it x t, st, ?_, fun v hv => ?_, fun h' x => x⟩
    · rw [q]; simp
    · obtain ⟨c, u, e1, rfl⟩ := hv
      refine ⟨.str ⟨#[c]⟩, ?_, u, rfl⟩
      rw [q, List.getElem?_map, Array.getElem?_toList, e1]
      rfl
theorem stand_inj {X : Cx} {pins : List (Addr × Obj)} {σ : L2.St} {H : Hp} {s : Shared} {k : SK} {xs ys : List V} (I : Inv X pins σ H s) (h1 : k.stand X.K H xs) (h2 : k.stand X.K H ys) : xs = ys := by
  cases k with
  | l a => exact I.list_inj h1 h2
  | t a => exact I.tuple_inj h1 h2
  | s x => exact (show xs = _ from h1).trans (show ys = _ from h2).symm
/-! ### enumerate -/
def IteK (K : PySem.W.Frag) (k : SK) (c : Int) : It :=
  ⟨fun i H => ∃ (xs : List V) (x : V), k.stand K H xs ∧ xs[i]? = some x, fun i H v H' => ∃ T x, v = .ref T ∧ H T = none ∧ H' = upd H T (.tup [.int (c + (i : Int)), x]) ∧ ∀ xs, k.stand K H xs → xs[i]? = some x, fun i H => ∃ xs : List V, k.stand K H xs ∧ xs.length = i⟩
theorem turn_enumK {P : Program} {w : World} {K : PySem.W.Frag} {elts : List Expr} {kk : Nat} {tpos : Pos} {k : SK} {c : Int} {t : Tok} {e it : Addr} (hei : e ≠ it) (hap : ∀ a ∈ k.ad, a ≠ it ∧ a ≠ e) :
    Turn P w K (.Tuple elts kk tpos) (IteK K k c) [e, it] e (fun i h => (∃ old, IsEnum h e it (c + (i : Int)) old) ∧ k.at t it i h) where
  mem := by simp
  obj := fun i h st b hb => by
    obtain ⟨⟨old, he⟩, hi⟩ := st
    have e' : b = e ∨ b = it := by simpa using hb
    rcases e' with z | z
    · rw [z]; exact ⟨_, he, fun v q => nomatch q⟩
    · rw [z]; exact SK.obj hi
  keep := fun i h h' st kp => let ⟨⟨old, he⟩, hi⟩ := st; ⟨⟨old, kp e (by simp) _ he⟩, SK.keep hi fun o q => kp it (by simp) o q⟩
  item := by
    intro X hP hw hK hc i pins s σ H E I hf st hg
    subst hP hw hK
    obtain ⟨⟨old, he⟩, hit⟩ := st
    obtain ⟨xs, x, hq, hx⟩ := hg
    obtain ⟨n, Pi, S, D⟩ := draws_of (A := X.A.in1) (I.ok.hd hc) I (fun a ha => (hap a ha).1) hit hq
    have hel : e < s.heap.objs.size := Heap.lt_size he
    have hil : it < s.heap.objs.size := by obtain ⟨_, q, _⟩ := SK.obj hit; exact Heap.lt_size q
    have hlt : i < n := by rw [D.len]; exact (List.getElem?_eq_some_iff.mp hx).1
    have hef : e ∉ it :: k.ad := fun z => by
      rcases List.mem_cons.mp z with z | z
      · exact hei z
      · exact (hap e z).2 rfl
    refine wpAny_pyNext_enum_itemC D.dr he D.st hlt hei hef fun v h' tk hP ho hS hT hsz hk => ?_
    obtain ⟨y, hy, ry⟩ := D.val v hP
    rw [hx] at hy
    cases hy
    refine ⟨_, rfl, wpAny_letOwnedTupleGo_enum (s := { s with heap := h', toks := tk + 1 }) ho fun h'' he' sb => ?_⟩
    have hT2 : h''.get? s.heap.objs.size = some { cls := .type "tuple", data := .seq #[.int (c + (i : Int)) tk, v] } := (sb.2 _ (Nat.ne_of_gt hel)).trans hT
    have new : ObjOk X.prog X.w (upd H s.heap.objs.size (.tup [.int (c + (i : Int)), x])) h'' s.heap.objs.size (.tup [.int (c + (i : Int)), x]) :=
      ⟨by show 2 ≤ sizeLine; decide, [.int (c + (i : Int)) tk, v], .cons ⟨_, rfl⟩ (.cons ry .nil), ⟨_, hT2, rfl, _, rfl⟩⟩
    have I1 : Inv X pins σ (upd H s.heap.objs.size (.tup [.int (c + (i : Int)), x])) { s with heap := h'', toks := tk + 1 } :=
      I.turnedNew (ch := [e, it]) (fun b ob hb q => (sb.2 b (fun z => hb (by simp [z]))).trans (hk b ob (fun z => hb (by simp [z])) (fun z => hb (by simp [z])) q)) hf (Nat.le_refl _) new
    refine ⟨.ref s.heap.objs.size, _, I1, rfl, ⟨_, x, rfl, I.hok.fresh (Nat.le_refl _), rfl, fun ys hy => by rw [stand_inj I hy hq]; exact hx⟩, ⟨⟨v, ?_⟩, SK.keep (D.nxt _ hS) fun o q => (sb.2 it (Ne.symm hei)).trans q⟩, fun b hb => ?_⟩
    · have e1 : c + ((i + 1 : Nat) : Int) = c + (i : Int) + 1 := by omega
      rw [e1]; exact he'
    · have hb' : b < s.heap.objs.size := by
        have e' : b = e ∨ b = it := by simpa using hb
        rcases e' with z | z
        · rw [z]; exact hel
        · rw [z]; exact hil
      rw [upd_ne (Nat.ne_of_lt hb')]
      exact (hf b hb).1
  done := by
    intro X hP hw hK hc i pins s σ H E I hf st hg
    subst hP hw hK
    obtain ⟨⟨old, he⟩, hit⟩ := st
    obtain ⟨xs, hq, hx⟩ := hg
    obtain ⟨n, Pi, S, D⟩ := draws_of (A := X.A.in1) (I.ok.hd hc) I (fun a ha => (hap a ha).1) hit hq
    have hn : n = i := by rw [D.len, hx]
    subst hn
    refine wpAny_pyNext_enum_endD D.dr he D.st fun h' eb => ⟨rfl, ?_⟩
    exact I.turnedL (t' := s.toks) (ch := [e, it]) (fun b o hb q => eb b o (fun z => hb (by simp [z])) q) hf
  self := fun A i s Q E st h => let ⟨⟨_, he⟩, _⟩ := st; wpAny_pyIter_enum he h
/-! ### zip of two -/
def ItzK (K : PySem.W.Frag) (k l : SK) : It :=
  ⟨fun i H => ∃ (xs ys : List V) (x y : V), k.stand K H xs ∧ l.stand K H ys ∧ xs[i]? = some x ∧ ys[i]? = some y,
    fun i H v H' => ∃ T x y, v = .ref T ∧ H T = none ∧ H' = upd H T (.tup [x, y]) ∧ (∀ xs, k.stand K H xs → xs[i]? = some x) ∧ ∀ ys, l.stand K H ys → ys[i]? = some y,
    fun i H => ∃ xs ys : List V, k.stand K H xs ∧ l.stand K H ys ∧ i ≤ xs.length ∧ i ≤ ys.length ∧ (i = xs.length ∨ i = ys.length)⟩
theorem turn_zipK {P : Program} {w : World} {K : PySem.W.Frag} {elts : List Expr} {kk : Nat} {tpos : Pos} {k l : SK} {t u : Tok} {z TI TO i1 i2 : Addr} (D : ZipSep2 z TI TO i1 i2 (i1 :: k.ad) (i2 :: l.ad)) (h1 : ∀ a ∈ k.ad, a ≠ i1) (h2 : ∀ a ∈ l.ad, a ≠ i2) :
    Turn P w K (.Tuple elts kk tpos) (ItzK K k l) [z, TI, TO, i1, i2] z (fun i h => IsZip h z TI TO .none ∧ IsTupOf2 h TI (.ref i1) (.ref i2) ∧ (∃ x y, IsTupOf2 h TO x y) ∧ k.at t i1 i h ∧ l.at u i2 i h) where
  mem := by simp
  obj := fun i h st c hc => by
    obtain ⟨hz, hTI, ⟨x, y, hTO⟩, g1, g2⟩ := st
    have e' : c = z ∨ c = TI ∨ c = TO ∨ c = i1 ∨ c = i2 := by simpa using hc
    rcases e' with q | q | q | q | q
    · rw [q]; exact ⟨_, hz, fun v q => nomatch q⟩
    · rw [q]; exact ⟨_, hTI, fun v q => nomatch q⟩
    · rw [q]; exact ⟨_, hTO, fun v q => nomatch q⟩
    · rw [q]; exact SK.obj g1
    · rw [q]; exact SK.obj g2
  keep := fun i h h' st kp => by
    obtain ⟨hz, hTI, ⟨x, y, hTO⟩, g1, g2⟩ := st
    exact ⟨kp z (by simp) _ hz, kp TI (by simp) _ hTI, ⟨x, y, kp TO (by simp) _ hTO⟩, SK.keep g1 fun o q => kp i1 (by simp) o q, SK.keep g2 fun o q => kp i2 (by simp) o q⟩
  item := by
    intro X hP hw hK hc i pins s σ H E I hf st hg
    subst hP hw hK
    obtain ⟨hz, hTI, ⟨x0, y0, hTO⟩, g1, g2⟩ := st
    obtain ⟨xs, ys, x, y, hqx, hqy, hx, hy⟩ := hg
    obtain ⟨n1, P1, S1, D1⟩ := draws_of (A := X.A.in1) (I.ok.hd hc) I h1 g1 hqx
    obtain ⟨n2, P2, S2, D2⟩ := draws_of (A := X.A.in1) (I.ok.hd hc) I h2 g2 hqy
    have hl1 : i < n1 := by rw [D1.len]; exact (List.getElem?_eq_some_iff.mp hx).1
    have hl2 : i < n2 := by rw [D2.len]; exact (List.getElem?_eq_some_iff.mp hy).1
    have hzl : z < s.heap.objs.size := Heap.lt_size hz
    have lt1 : i1 < s.heap.objs.size := by obtain ⟨_, q, _⟩ := SK.obj g1; exact Heap.lt_size q
    have lt2 : i2 < s.heap.objs.size := by obtain ⟨_, q, _⟩ := SK.obj g2; exact Heap.lt_size q
    refine wpAny_pyNext_zipD2_item D D1.dr D2.dr hz hTI hTO D1.st D2.st hl1 hl2 fun v1 v2 h' tk p1 p2 z' TO' s1 s2 hT hsz hk => ?_
    obtain ⟨x', e1, r1⟩ := D1.val v1 p1
    obtain ⟨y', e2, r2⟩ := D2.val v2 p2
    rw [hx] at e1; cases e1
    rw [hy] at e2; cases e2
    refine ⟨_, rfl, wpAny_letOwnedTupleGo_zip (s := { s with heap := h', toks := tk }) z' fun h'' z'' sb => ?_⟩
    have hT2 : IsTupOf2 h'' s.heap.objs.size v1 v2 := (sb.2 _ (Nat.ne_of_gt hzl)).trans hT
    have new : ObjOk X.prog X.w (upd H s.heap.objs.size (.tup [x, y])) h'' s.heap.objs.size (.tup [x, y]) :=
      ⟨by show 2 ≤ sizeLine; decide, [v1, v2], .cons r1 (.cons r2 .nil), ⟨_, hT2, rfl, _, rfl⟩⟩
    have I1 : Inv X pins σ (upd H s.heap.objs.size (.tup [x, y])) { s with heap := h'', toks := tk } :=
      I.turnedNew (t' := tk) (ch := [z, TI, TO, i1, i2]) (fun c o hb q => (sb.2 c (fun q' => hb (by simp [q']))).trans (hk c o (fun q' => hb (by simp [q'])) (fun q' => hb (by simp [q'])) (fun q' => hb (by simp [q'])) (fun q' => hb (by simp [q'])) q)) hf (Nat.le_refl _) new
    refine ⟨.ref s.heap.objs.size, _, I1, rfl, ⟨_, x, y, rfl, I.hok.fresh (Nat.le_refl _), rfl, fun l' hl => by rw [stand_inj I hl hqx]; exact hx, fun l' hl => by rw [stand_inj I hl hqy]; exact hy⟩, ⟨z'', ?_, ⟨v1, v2, ?_⟩, ?_, ?_⟩, fun c hcm => ?_⟩
    · exact (sb.2 _ D.TIz).trans (hk _ _ D.TIz D.TITO D.TIi1 D.TIi2 hTI)
    · exact (sb.2 _ D.TOz).trans TO'
    · exact SK.keep (D1.nxt _ s1) fun o q => (sb.2 _ (Ne.symm D.zi1)).trans q
    · exact SK.keep (D2.nxt _ s2) fun o q => (sb.2 _ (Ne.symm D.zi2)).trans q
    · have hlt : c < s.heap.objs.size := by
        have e' : c = z ∨ c = TI ∨ c = TO ∨ c = i1 ∨ c = i2 := by simpa using hcm
        rcases e' with q | q | q | q | q
        · rw [q]; exact hzl
        · rw [q]; exact Heap.lt_size hTI
        · rw [q]; exact Heap.lt_size hTO
        · rw [q]; exact lt1
        · rw [q]; exact lt2
      rw [upd_ne (Nat.ne_of_lt hlt)]
      exact (hf c hcm).1
  done := by
    intro X hP hw hK hc i pins s σ H E I hf st hg
    subst hP hw hK
    obtain ⟨hz, hTI, ⟨x0, y0, hTO⟩, g1, g2⟩ := st
    obtain ⟨xs, ys, hqx, hqy, l1, l2, hend⟩ := hg
    obtain ⟨n1, P1, S1, D1⟩ := draws_of (A := X.A.in1) (I.ok.hd hc) I h1 g1 hqx
    obtain ⟨n2, P2, S2, D2⟩ := draws_of (A := X.A.in1) (I.ok.hd hc) I h2 g2 hqy
    refine wpAny_pyNext_zipD2_end D D1.dr D2.dr hz hTI hTO D1.st D2.st (by rw [D1.len]; exact l1) (by rw [D2.len]; exact l2) (by rw [D1.len, D2.len]; exact hend) fun h' tk hk => ⟨rfl, ?_⟩
    exact I.turnedL (t' := tk) (ch := [z, TI, TO, i1, i2]) (fun c o hb q =>
      hk c o (fun q' => hb (by simp [q'])) (fun q' => hb (by simp [q'])) (fun q' => hb (by simp [q'])) (fun q' => hb (by simp [q'])) q) hf
  self := fun A i s Q E st h => wpAny_pyIter_zip st.1 h
end DL

namespace DL
open PySem PySem.Spec PyProof.Rows L2
/-! ## enumerate(v), zip(u, v) begin -/
abbrev enCell (N : Addr) (c : Int) : Obj := { cls := .type "enumerate", data := .fields #[.none, .bool false, .ref N, rawInt c, .none, .none] }
theorem meets_enumB {v : Value} {o : Obj} {Hh : Heap → Prop} (B : Begins v o Hh) :
    Meets (Builtin.«enumerate.__new__» ⟨[.type "enumerate", v], []⟩) (fun _ R s => Hh s.heap ∧ R (.ok (.ret (.ref (s.heap.push o).objs.size))) { s with heap := (s.heap.push o).push (enCell s.heap.objs.size 0) }) :=
  .of_wp fun prog w A R s h => by
    obtain ⟨hp, g, d, tk, os⟩ := s
    obtain ⟨b1, h⟩ := h
    have hsub := sub_enumerate
    have go : ∀ {A' : Around} {E : Value → Shared → Prop} {Q : Value → Shared → Prop}, Q (.ref hp.objs.size) ⟨hp.push o, g, d, tk, os⟩ → wpAny (model prog w) A' (pyIter v) Q E ⟨hp, g, d, tk, os⟩ := fun q => B.iter prog w _ _ ⟨hp, g, d, tk, os⟩ _ b1 q
    wp_walk using go
    refine wpAny_stack_any fun st => wpAny_pure ?_
    split
    · rename_i c _ _ _ _ _
      cases (c == Value.type "enumerate") <;> (wp_walk using go; exact ⟨_, rfl, h⟩)
    · wp_walk using go
      exact ⟨_, rfl, h⟩
theorem enumB {prog : Program} {w : World} {A : Around} {E : Value → Shared → Prop} {s : Shared} {v : Value} {o : Obj} {Hh : Heap → Prop} {Q : Value → Shared → Prop} (B : Begins v o Hh) (b1 : Hh s.heap)
    (h : ∀ h', IsEnum h' (s.heap.objs.size + 1) s.heap.objs.size 0 .none → h'.get? s.heap.objs.size = some o → (∀ b u, s.heap.get? b = some u → h'.get? b = some u) → Q (.ref (s.heap.objs.size + 1)) { s with heap := h' }) :
    wpAny (model prog w) A (call (.type "enumerate") [v]) Q E s := by
  have z : (s.heap.push o).objs.size = s.heap.objs.size + 1 := Heap.size_push ..
  have e : IsEnum ((s.heap.push o).push (enCell s.heap.objs.size 0)) (s.heap.objs.size + 1) s.heap.objs.size 0 .none := by
    have q := Heap.get?_push_size (s.heap.push o) (o := enCell s.heap.objs.size 0) rfl
    rw [z] at q
    exact q
  refine callType_new F.called_enumerate (by decide) (F.typeCall_enumerate_1 _) (F.newCall_enumerate_1 _) (fun obj => F.args_object_init_2 obj _) F.entry_enumerate_new (meets_enumB B) ⟨b1, ?_⟩
  show _ ∧ _
  rw [z]
  exact ⟨⟨_, e, rfl⟩, h _ e (Heap.get?_push_of_some _ (Heap.get?_push_size _ B.free)) fun b u x => Heap.get?_push_of_some _ (Heap.get?_push_of_some _ x)⟩
/-- how the iterator of such a sequence begins -/
structure BegK (k : SK) (u : Value) (h : Heap) (o : Obj) (t : Tok) (Hh : Heap → Prop) : Prop where
  b : Begins u o Hh
  h0 : Hh h
  at_ : ∀ (h' : Heap) (it : Addr), h'.get? it = some o → k.at t it 0 h'
  lt : ∀ a ∈ k.ad, a < h.objs.size
theorem beg_of {X : Cx} {pins : List (Addr × Obj)} {σ : L2.St} {H : Hp} {s : Shared} {k : SK} {u : Value} {vs : List V} (I : Inv X pins σ H s) (r : RelV k.v u) (q : k.stand X.K H vs) : ∃ o t Hh, BegK k u s.heap o t Hh := by
  cases k with
  | l a =>
    obtain ⟨its, rv, p, hz⟩ := I.list q
    obtain rfl : u = Value.ref a := r
    exact ⟨_, 0, _, begins_list a its.toArray, p.isList, fun h' it e => ⟨_, e, rfl, rfl⟩, fun b hb => by
      have : b = a := by simpa [SK.ad] using hb
      subst this; exact p.lt⟩
  | t a =>
    obtain ⟨its, rv, p, hz⟩ := I.tuple q
    obtain rfl : u = Value.ref a := r
    refine ⟨_, 0, _, begins_tuple a its.toArray, p, fun h' it e => ⟨_, e, rfl, rfl⟩, fun b hb => ?_⟩
    have : b = a := by simpa [SK.ad] using hb
    subst this
    obtain ⟨o, e, _⟩ := id p
    exact Heap.lt_size e
  | s x =>
    obtain ⟨t, rfl⟩ := (show ∃ t, u = Value.str x t from r)
    exact ⟨_, t, _, begins_text x t, trivial, fun h' it e => ⟨_, e, rfl, rfl⟩, fun b hb => by simp [SK.ad] at hb⟩
theorem SK.frame {K : PySem.W.Frag} {H H' : Hp} {k : SK} {vs : List V} (q : k.stand K H vs) (e : H = H') : k.stand K H' vs := e ▸ q
section
variable {X : Cx} {tb : Addr → Prop} {W : WX} {pos : Pos}
def iEnK (K : PySem.W.Frag) (c : Int) (ta : TA) : TI := fun σ H R => ta σ H fun vs H1 => ∃ (k : SK) (xs : List V), vs = [k.v] ∧ k.stand K H1 xs ∧ R (IteK K k c) H1
theorem en_end {pins : List (Addr × Obj)} {σ : L2.St} {H : Hp} {s : Shared} {k : SK} {u : Value} {o : Obj} {t : Tok} {Hh : Heap → Prop} {c : Int} {elts : List Expr} {kk : Nat} {tpos : Pos} {R : It → Hp → Prop} (I : Inv X pins σ H s) (B : BegK k u s.heap o t Hh)
    {h' : Heap} (he : IsEnum h' (s.heap.objs.size + 1) s.heap.objs.size c .none) (ho : h'.get? s.heap.objs.size = some o) (hk : ∀ b u, s.heap.get? b = some u → h'.get? b = some u) (q : R (IteK X.K k c) H) :
    PIE X pins σ (.Tuple elts kk tpos) R (.ref (s.heap.objs.size + 1)) { s with heap := h' } := by
  have I2 : Inv X pins σ H { s with heap := h' } := I.kept (t' := s.toks) hk
  have e0 : c = c + ((0 : Nat) : Int) := by omega
  refine ⟨s.heap.objs.size + 1, [s.heap.objs.size + 1, s.heap.objs.size], _, _, H, rfl, I2, turn_enumK (k := k) (c := c) (t := t) (Nat.succ_ne_self _) (fun a ha => ⟨Nat.ne_of_lt (B.lt a ha), Nat.ne_of_lt (Nat.lt_succ_of_lt (B.lt a ha))⟩), ⟨⟨.none, ?_⟩, B.at_ _ _ ho⟩, fun b hb => ?_, q⟩
  · rw [← e0]; exact he
  · have e' : b = s.heap.objs.size + 1 ∨ b = s.heap.objs.size := by simpa using hb
    have hle : s.heap.objs.size ≤ b := by
      rcases e' with z | z
      · rw [z]; exact Nat.le_add_right _ _
      · rw [z]; exact Nat.le_refl _
    exact I.fpOk hle (I.hok.fresh hle)
theorem pi_enK {e : Expr} {ta : TA} {p tpos : Pos} {elts : List Expr} {kk : Nat} (hg : Gl X "enumerate") (hm : X.mg "enumerate" = none) (ha : PA X [e] ta) (hs : starEach [e] X.env = [(false, eval e X.env)] := by rfl) :
    PI X (.Tuple elts kk tpos) (.Call (.Name "enumerate" p) [e] [] pos) (iEnK X.K 0 ta) := by
  refine ⟨fun pins s σ H R I h => ?_⟩
  refine Call_ (ld_blt I hg hm boot_enumerate (PyProof.Rows.callWith_type1 (thn (ha.run pos pins s σ H _ I h) fun us s1 ⟨vs, H1, I1, r1, k, xs, ex, hq, q⟩ => ?_) hs rfl))
  subst ex
  cases r1 with
  | cons r rr =>
    cases rr
    obtain ⟨o, t, Hh, B⟩ := beg_of I1 r hq
    exact enumB B.b B.h0 fun h' he ho hk => wpAny_pyIter_enum he (en_end I1 B he ho hk q)
/-- enumerate(v, start=1) -/
theorem pi_enS {e : Expr} {te : TE} {p p2 p3 tpos : Pos} {elts : List Expr} {kk j : Nat} {c : Int} (hg : Gl X "enumerate") (hm : X.mg "enumerate" = none) (hc0 : -(2 ^ 63) ≤ c) (hc1 : c < 2 ^ 63) (ha : PE X e te)
    (hs : starEach [e] X.env = (false, eval e X.env) :: starEach [] X.env := by rfl)
    (hall : (backToKw pos (keywordEach [⟨some "start", .Constant (.int c) j p2, p3⟩] X.env)).all (·.1.isSome) = true := by rfl)
    (hpl : ((backTo pos (starEach [e] X.env)).any (·.1) || (backToKw pos (keywordEach [⟨some "start", .Constant (.int c) j p2, p3⟩] X.env)).any (·.1.isNone)) = false := by rfl)
    (hks : (backToKw pos (keywordEach [⟨some "start", .Constant (.int c) j p2, p3⟩] X.env)).filterMap (·.1) = [("start" : Str)] := by rfl) :
    PI X (.Tuple elts kk tpos) (.Call (.Name "enumerate" p) [e] [⟨some "start", .Constant (.int c) j p2, p3⟩] pos) (iEnK X.K c (tCons te tNil)) := by
  refine ⟨fun pins s σ H R I h => ?_⟩
  have ha2 : PA X [e] (tCons te tNil) := pa_cons ha pa_nil hs
  refine wpAny_Call_Name_kw (ld_blt I hg hm boot_enumerate ?_)
  refine PySem.W.callWith_of (P := fun _ => True) hpl (fun h _ => ⟨.machine, .inr (.inl rfl), fun A Q E s _ q => wpAny_pure q⟩) (evalArgs_kw2 hall (thn (ha2.run pos pins s σ H _ I h) fun us s1 ⟨vs, H1, I1, r1, k, xs, ex, hq, q⟩ => ?_) hs)
  have hk : PK X [⟨some "start", .Constant (.int c) j p2, p3⟩] (tCons (tC (.int c)) tNil) := pk_cons pe_int pk_nil
  refine thn (hk.run pos pins s1 σ H1 (fun ws H2 => ws = [.int c] ∧ H2 = H1) I1 ⟨rfl, rfl⟩) fun ws s2 ⟨zs, H2, I2, rz, ez, eH⟩ => ⟨trivial, ?_⟩
  subst ez
  subst eH
  subst ex
  rw [hks]
  cases rz with
  | cons rc rn =>
    cases rn
    obtain ⟨tc, rfl⟩ := rc
    cases r1 with
    | cons r rr =>
      cases rr
      obtain ⟨o, t, Hh, B⟩ := beg_of I2 r hq
      exact enum_begins_start B.b B.h0 hc0 hc1 fun h' he ho hsz hk => wpAny_pyIter_enum he (en_end I2 B he ho hk q)
end
end DL

namespace DL
open PySem PySem.Spec PyProof.Rows L2
section
variable {X : Cx} {tb : Addr → Prop} {W : WX} {pos : Pos}
def iZpK (K : PySem.W.Frag) (ta : TA) : TI := fun σ H R => ta σ H fun vs H1 => ∃ (k l : SK) (xs ys : List V), vs = [k.v, l.v] ∧ k.stand K H1 xs ∧ l.stand K H1 ys ∧ R (ItzK K k l) H1
theorem pi_zipK {e e2 : Expr} {ta : TA} {p tpos : Pos} {elts : List Expr} {kk : Nat} (hg : Gl X "zip") (hm : X.mg "zip" = none) (ha : PA X [e, e2] ta)
    (hs : starEach [e, e2] X.env = (false, eval e X.env) :: starEach [e2] X.env := by rfl) (hpl : (backTo pos (starEach [e2] X.env)).any (·.1) = false := by rfl) :
    PI X (.Tuple elts kk tpos) (.Call (.Name "zip" p) [e, e2] [] pos) (iZpK X.K ta) := by
  refine ⟨fun pins s σ H R I h => ?_⟩
  refine Call_ (ld_blt I hg hm PyProof.Rows.boot_zip (PyProof.Rows.callWith_type1 (thn (ha.run pos pins s σ H _ I h) fun us s1 ⟨vs, H1, I1, r1, k, l, xs, ys, ex, hqx, hqy, q⟩ => ?_) hs hpl))
  subst ex
  cases r1 with
  | cons r rr =>
    cases rr with
    | cons r' rr =>
      cases rr
      obtain ⟨o1, t1, H1h, B1⟩ := beg_of I1 r hqx
      obtain ⟨o2, t2, H2h, B2⟩ := beg_of I1 r' hqy
      refine zip_begins2 B1.b B2.b B1.h0 B2.h0 fun h' hz hTI hTO ho1 ho2 hsz hk => wpAny_pyIter_zip hz ?_
      have I2 : Inv X pins σ H1 { s1 with heap := h' } := I1.kept (t' := s1.toks) hk
      have S := zip_sep2 (N := s1.heap.objs.size) (fp1 := k.ad) (fp2 := l.ad) B1.lt B2.lt
      refine ⟨s1.heap.objs.size + 4, [s1.heap.objs.size + 4, s1.heap.objs.size + 2, s1.heap.objs.size + 3, s1.heap.objs.size, s1.heap.objs.size + 1], _, _, H1, rfl, I2,
        turn_zipK (k := k) (l := l) (t := t1) (u := t2) S (fun a ha => Nat.ne_of_lt (B1.lt a ha)) (fun a ha => Nat.ne_of_lt (Nat.lt_succ_of_lt (B2.lt a ha))), ⟨hz, hTI, ⟨_, _, hTO⟩, B1.at_ _ _ ho1, B2.at_ _ _ ho2⟩, fun c hcm => ?_, q⟩
      have e' : c = s1.heap.objs.size + 4 ∨ c = s1.heap.objs.size + 2 ∨ c = s1.heap.objs.size + 3 ∨ c = s1.heap.objs.size ∨ c = s1.heap.objs.size + 1 := by simpa using hcm
      have hle : s1.heap.objs.size ≤ c := by
        rcases e' with z | z | z | z | z
        · rw [z]; exact Nat.le_add_right _ _
        · rw [z]; exact Nat.le_add_right _ _
        · rw [z]; exact Nat.le_add_right _ _
        · rw [z]; exact Nat.le_refl _
        · rw [z]; exact Nat.le_add_right _ _
      exact I1.fpOk hle (I1.hok.fresh hle)
end
/-! ### the items -/
def enumD (c : Int) : List D → List D
  | [] => []
  | d :: ds => .wtup [.int c, d] :: enumD (c + 1) ds
theorem enumD_len : ∀ (c : Int) (ds : List D), (enumD c ds).length = ds.length
  | _, [] => rfl
  | c, d :: ds => by show (enumD (c + 1) ds).length + 1 = ds.length + 1; rw [enumD_len]
theorem enumD_get : ∀ (c : Int) (ds : List D) (i : Nat), (enumD c ds)[i]? = (ds[i]?).map fun d => .wtup [.int (c + (i : Int)), d]
  | _, [], i => by simp [enumD]
  | c, d :: ds, 0 => by simp [enumD]
  | c, d :: ds, i + 1 => by
    show (enumD (c + 1) ds)[i]? = (ds[i]?).map _
    rw [enumD_get]
    have e : c + 1 + (i : Int) = c + ((i + 1 : Nat) : Int) := by omega
    rw [e]
def zipD : List D → List D → List D
  | d :: ds, e :: es => .wtup [d, e] :: zipD ds es
  | _, _ => []
theorem zipD_len : ∀ (ds es : List D), (zipD ds es).length = min ds.length es.length
  | [], _ => by simp [zipD]
  | _ :: _, [] => by simp [zipD]
  | d :: ds, e :: es => by show (zipD ds es).length + 1 = _; rw [zipD_len]; simp [Nat.succ_min_succ]
theorem zipD_get : ∀ (ds es : List D) (i : Nat) (z : D), (zipD ds es)[i]? = some z → ∃ d e, ds[i]? = some d ∧ es[i]? = some e ∧ z = .wtup [d, e]
  | [], _, _, _, h => by simp [zipD] at h
  | _ :: _, [], _, _, h => by simp [zipD] at h
  | d :: ds, e :: es, 0, z, h => by simp [zipD] at h; exact ⟨d, e, rfl, rfl, h.symm⟩
  | d :: ds, e :: es, i + 1, z, h => by
    obtain ⟨d', e', h1, h2, h3⟩ := zipD_get ds es i z (by simpa [zipD] using h)
    exact ⟨d', e', by simpa using h1, by simpa using h2, h3⟩
theorem guard_app {gs hs : List (Nat × List D)} {μ : Mu} (h : Guard (gs ++ hs) μ) : Guard gs μ ∧ Guard hs μ := ⟨fun p hp => h p (List.mem_append_left _ hp), fun p hp => h p (List.mem_append_right _ hp)⟩
theorem walk_en {G : Gx} {H : Hp} {ρ : Rho} {k : SK} {c : Int} {items : List D} {gs : List (Nat × List D)} (s : StandD G H ρ k items gs) : WalkD G H ρ (IteK G.K k c) (enumD c items) gs := fun H2 ρ2 μ2 st g => by
  obtain ⟨vs, h1, r1⟩ := s H2 ρ2 μ2 st g
  have hl := r1.length
  rw [enumD_len]
  refine ⟨fun i hi => ⟨vs, vs[i]'(by omega), h1, List.getElem?_eq_getElem _⟩, fun i hi => ⟨vs, h1, by omega⟩, fun i d hd x H3 y => ?_⟩
  obtain ⟨T, w, rfl, hT, rfl, y⟩ := y
  rw [enumD_get] at hd
  cases e : items[i]? with
  | none => rw [e] at hd; cases hd
  | some d0 =>
    rw [e] at hd
    cases hd
    obtain ⟨v, h2, r2⟩ := r1.get e
    rw [y vs h1] at h2
    cases h2
    exact new_wtup st.mu hT (.cons (.int _) (.cons r2 .nil))
theorem walk_zp {G : Gx} {H : Hp} {ρ : Rho} {k l : SK} {items jtems : List D} {gs hs : List (Nat × List D)} (s : StandD G H ρ k items gs) (t : StandD G H ρ l jtems hs) : WalkD G H ρ (ItzK G.K k l) (zipD items jtems) (gs ++ hs) := fun H2 ρ2 μ2 st g => by
  obtain ⟨vs, h1, r1⟩ := s H2 ρ2 μ2 st (guard_app g).1
  obtain ⟨ws, g1, t1⟩ := t H2 ρ2 μ2 st (guard_app g).2
  have hl := r1.length
  have hl2 := t1.length
  rw [zipD_len]
  refine ⟨fun i hi => ⟨vs, ws, vs[i]'(by omega), ws[i]'(by omega), h1, g1, List.getElem?_eq_getElem _, List.getElem?_eq_getElem _⟩, fun i hi => ⟨vs, ws, h1, g1, by omega, by omega, by omega⟩, fun i d hd x H3 y => ?_⟩
  obtain ⟨T, w, w2, rfl, hT, rfl, y, y2⟩ := y
  obtain ⟨d0, e0, h3, h4, rfl⟩ := zipD_get _ _ _ _ hd
  obtain ⟨v, h5, r5⟩ := r1.get h3
  obtain ⟨u, h6, r6⟩ := t1.get h4
  rw [y vs h1] at h5
  rw [y2 ws g1] at h6
  cases h5
  cases h6
  exact new_wtup st.mu hT (.cons r5 (.cons r6 .nil))
theorem StandD.step {G : Gx} {H H' : Hp} {ρ ρ' : Rho} {k : SK} {items : List D} {gs : List (Nat × List D)} {μ' : Mu} (st : Step G ρ H ρ' H' μ') (s : StandD G H ρ k items gs) : StandD G H' ρ' k items gs := fun H2 ρ2 μ2 st2 g => s H2 ρ2 μ2 (st.trans st2) g
theorem guard_of {μ : Mu} {d : D} {items : List D} {gs : List (Nat × List D)} (e : itemsD μ d = some (items, gs)) : Guard gs μ := by
  cases d with
  | mref h =>
    have e : (dL μ (.mref h)).map (fun xs => (xs, [(h, xs)])) = some (items, gs) := e
    cases q : dL μ (.mref h) with
    | none => rw [q] at e; cases e
    | some xs =>
      rw [q] at e
      cases e
      intro p hp
      rw [List.mem_singleton.mp hp]
      exact mref_l q
  | str z => cases e; exact guard_nil _
  | tup xs => cases e; exact guard_nil _
  | lst xs => cases e; exact guard_nil _
  | _ => cases e
def iEn (c : Int) (f : Sl → Cm D) : Sl → Cm (List D × List (Nat × List D)) := fun sl => (f sl).bind fun d => Cm.look fun μ => (itemsD μ d).map fun p => (enumD c p.1, p.2)
def iZp (f g : Sl → Cm D) : Sl → Cm (List D × List (Nat × List D)) := fun sl => (f sl).bind fun d => (g sl).bind fun e => Cm.look fun μ => (itemsD μ d).bind fun p => (itemsD μ e).map fun q => (zipD p.1 q.1, p.2 ++ q.2)
section
variable {X : Cx} {tb : Addr → Prop} {W : WX} {pos : Pos}
theorem en_lem {c : Int} {f : Sl → Cm D} {σ : L2.St} {H : Hp} {R : It → Hp → Prop} (h : rd (gx X tb) (rIt (gx X tb)) W (iEn c f) σ H R) : iEnK X.K c (tCons (rd (gx X tb) (rV X.K) W f) tNil) σ H R := by
  obtain ⟨sl, ρ, hs, hc⟩ := h
  refine ⟨sl, ρ, hs, (Cfg.bind (Rq := rV X.K) hc).imp fun v H1 ⟨ρ1, d, r, x1, k1, c1⟩ => ?_⟩
  obtain ⟨μ, p, hm, e, c1⟩ := c1.look
  cases e1 : itemsD μ d with
  | none => rw [e1] at e; cases e
  | some q =>
    rw [e1] at e
    cases e
    obtain ⟨items, gs⟩ := q
    obtain ⟨k, hk, sd⟩ := stand_of (G := gx X tb) r e1 hm
    obtain ⟨μ2, hm2, he⟩ := c1.okA
    have look0 : Guard gs μ → ∃ vs, k.stand X.K H1 vs ∧ DReps X.K H1 ρ1 vs items := fun g => sd H1 ρ1 μ (.refl hm) g
    obtain ⟨vs, h1, _⟩ := look0 (guard_of e1)
    exact ⟨k, vs, by rw [hk], h1, he _ _ ρ1 (.refl hm2) (walk_en sd)⟩
/-- for .. in enumerate(e) -/
theorem di_enum {e : Expr} {p tpos : Pos} {elts : List Expr} {kk : Nat} {f : Sl → Cm D} (hg : Gl X "enumerate") (hm : X.mg "enumerate" = none) (ha : DE X tb W e f) (hs : starEach [e] X.env = [(false, eval e X.env)] := by rfl) :
    DI X tb W (.Tuple elts kk tpos) (.Call (.Name "enumerate" p) [e] [] pos) (iEn 0 f) := (pi_enK hg hm (pa_cons ha pa_nil hs) hs).imp fun σ H R h => en_lem h
theorem di_enumS {e : Expr} {p p2 p3 tpos : Pos} {elts : List Expr} {kk j : Nat} {c : Int} {f : Sl → Cm D} (hg : Gl X "enumerate") (hm : X.mg "enumerate" = none) (hc0 : -(2 ^ 63) ≤ c) (hc1 : c < 2 ^ 63) (ha : DE X tb W e f)
    (hs : starEach [e] X.env = (false, eval e X.env) :: starEach [] X.env := by rfl)
    (hall : (backToKw pos (keywordEach [⟨some "start", .Constant (.int c) j p2, p3⟩] X.env)).all (·.1.isSome) = true := by rfl)
    (hpl : ((backTo pos (starEach [e] X.env)).any (·.1) || (backToKw pos (keywordEach [⟨some "start", .Constant (.int c) j p2, p3⟩] X.env)).any (·.1.isNone)) = false := by rfl)
    (hks : (backToKw pos (keywordEach [⟨some "start", .Constant (.int c) j p2, p3⟩] X.env)).filterMap (·.1) = [("start" : Str)] := by rfl) :
    DI X tb W (.Tuple elts kk tpos) (.Call (.Name "enumerate" p) [e] [⟨some "start", .Constant (.int c) j p2, p3⟩] pos) (iEn c f) := (pi_enS hg hm hc0 hc1 ha hs hall hpl hks).imp fun σ H R h => en_lem h
/-- for .. in zip(e, e2) -/
theorem di_zip {e e2 : Expr} {p tpos : Pos} {elts : List Expr} {kk : Nat} {f g : Sl → Cm D} (hg : Gl X "zip") (hm : X.mg "zip" = none) (ha : DE X tb W e f) (hb : DE X tb W e2 g)
    (hs : starEach [e, e2] X.env = (false, eval e X.env) :: starEach [e2] X.env := by rfl) (hs2 : starEach [e2] X.env = (false, eval e2 X.env) :: starEach [] X.env := by rfl) (hpl : (backTo pos (starEach [e2] X.env)).any (·.1) = false := by rfl) :
    DI X tb W (.Tuple elts kk tpos) (.Call (.Name "zip" p) [e, e2] [] pos) (iZp f g) :=
  (pi_zipK hg hm (pa_cons ha (pa_cons hb pa_nil hs2) hs) hs hpl).imp fun σ H R ⟨sl, ρ, hs, hc⟩ => by
    refine ⟨sl, ρ, hs, (Cfg.bind (Rq := rV X.K) hc).imp fun v H1 ⟨ρ1, d, r, x1, k1, c1⟩ => ?_⟩
    refine ⟨sl, ρ1, hs.step x1 k1, (Cfg.bind (Rq := rV X.K) c1).imp fun u H2 ⟨ρ2, d2, r2, x2, k2, c2⟩ => ?_⟩
    obtain ⟨μ, p, hm, e, c2⟩ := c2.look
    cases e1 : itemsD μ d with
    | none => rw [e1] at e; cases e
    | some q =>
      cases e2 : itemsD μ d2 with
      | none => rw [e1, e2] at e; cases e
      | some q2 =>
        rw [e1, e2] at e
        cases e
        obtain ⟨items, gs⟩ := q
        obtain ⟨jtems, hs'⟩ := q2
        obtain ⟨k, hk, sd⟩ := stand_of (G := gx X tb) (DRep.step x2 k2 _ _ r) e1 hm
        obtain ⟨l, hl, sd2⟩ := stand_of (G := gx X tb) r2 e2 hm
        obtain ⟨μ2, hm2, he⟩ := c2.okA
        obtain ⟨vs, h1, _⟩ := sd H2 ρ2 μ (.refl hm) (guard_of e1)
        obtain ⟨ws, g1, _⟩ := sd2 H2 ρ2 μ (.refl hm) (guard_of e2)
        exact ⟨k, l, vs, ws, by rw [hk, hl], h1, g1, he _ _ ρ2 (.refl hm2) (walk_zp sd sd2)⟩
end
end DL

namespace DL
open PySem PySem.Spec PyProof.Rows L2
/-! ## the quiet layer: expressions that only lay new objects, wherever they run -/
/-- the fixed things -/
structure QX where
  prog : Program
  w : World
  K : PySem.W.Frag
  mg : Str → Option Value
  base : Heap
/-- the names that are seen -/
def Sees (env : Env) (s : Shared) (x : Str) (v : V) : Prop :=
  ∃ u, RelV v u ∧ ((env.kindOf x = some .local ∧ ∃ m, s.heap.Ns env.locals m ∧ m x = some u) ∨ (env.kindOf x = some .free ∧ ∃ c, env.cells.lookup x = some c ∧ s.heap.IsCell c (some u)))
structure QS (X : QX) (H : Hp) (env : Env) (nms : List Str) (vs : List V) (s : Shared) : Prop where
  mod : Mod X.K X.mg X.base
  bk : ∀ b o, X.base.get? b = some o → s.heap.get? b = some o
  lim : s.heap.NoLimit
  kind : env.scope.kind = .function
  glob : env.globals = mainGlobals
  blt : env.builtins = builtinsNs
  hok : HOk X.prog X.w H s.heap
  see : ∀ (i : Nat) x v, nms[i]? = some x → vs[i]? = some v → Sees env s x v
theorem Keeps.all {s s' : Shared} (k : Keeps s s') : ∀ b o, s.heap.get? b = some o → s'.heap.get? b = some o := by
  obtain ⟨h', tk, rfl, k⟩ := k; exact k
theorem keepsTrans {s s' s'' : Shared} (k : Keeps s s') (k' : Keeps s' s'') : Keeps s s'' := by
  obtain ⟨h', tk, rfl, k⟩ := k
  obtain ⟨h'', tk', rfl, k'⟩ := k'
  exact ⟨h'', tk', rfl, fun b o e => k' b o (k b o e)⟩
theorem Sees.keeps {env : Env} {s s' : Shared} {x : Str} {v : V} (k : Keeps s s') (h : Sees env s x v) : Sees env s' x v := by
  obtain ⟨u, r, h⟩ := h
  refine ⟨u, r, ?_⟩
  rcases h with ⟨h1, m, h2, h3⟩ | ⟨h1, c, h2, h3⟩
  · exact .inl ⟨h1, m, h2.at' fun o e => Keeps.all k _ o e, h3⟩
  · obtain ⟨o, e, r⟩ := h3
    exact .inr ⟨h1, c, h2, o, Keeps.all k _ o e, r⟩
theorem QS.keeps {X : QX} {H : Hp} {env : Env} {nms : List Str} {vs : List V} {s s' : Shared} (q : QS X H env nms vs s) (k : Keeps s s') : QS X H env nms vs s' :=
  ⟨q.mod, fun b o e => Keeps.all k b o (q.bk b o e), q.lim.keeps (Keeps.all k), q.kind, q.glob, q.blt, q.hok.kept (Keeps.all k), fun i x v e1 e2 => (q.see i x v e1 e2).keeps k⟩
theorem QS.kin {X : QX} {H : Hp} {env : Env} {nms : List Str} {vs : List V} {s : Shared} (q : QS X H env nms vs s) : X.K.In s.heap := fun a o e => q.bk a o (q.mod.kin a o e)
/-- e is x, wherever it is evaluated -/
def QE (X : QX) (H : Hp) (env : Env) (nms : List Str) (vs : List V) (k : Nat) (e : Expr) (x : V) : Prop :=
  ∀ (A : Around) (E : Value → Shared → Prop) (s : Shared), A.handled = none → A.depth + k < recursionLimit → QS X H env nms vs s → wpAny (model X.prog X.w) A (eval e env) (fun y s' => RelV x y ∧ Keeps s s') E s
theorem kRefl (s : Shared) : Keeps s s := ⟨s.heap, s.toks, rfl, fun _ _ e => e⟩
theorem kTok (s : Shared) (t : Nat) : Keeps s { s with toks := t } := ⟨s.heap, t, rfl, fun _ _ e => e⟩
section
variable {X : QX} {H : Hp} {env : Env} {nms : List Str} {vs : List V} {k : Nat} {pos : Pos}
theorem QE.mono {j : Nat} {e : Expr} {x : V} (h : QE X H env nms vs j e x) (hk : j ≤ k) : QE X H env nms vs k e x := fun A E s hA hd q => h A E s hA (by omega) q
theorem qe_name {i : Nat} {x : Str} {v : V} (hx : nms[i]? = some x) (hv : vs[i]? = some v) (hd : (x == ("__debug__" : Str)) = false := by decide) (hcd : (x == ("__classdict__" : Str)) = false := by decide) : QE X H env nms vs k (.Name x pos) v := fun A E s hA hdp q => by
  obtain ⟨u, r, h⟩ := q.see i x v hx hv
  refine wpAny_Name ?_ hd
  rcases h with ⟨h1, m, h2, h3⟩ | ⟨h1, c, h2, h3⟩
  · exact wpAny_loadName_local q.kind h1 h2 h3 ⟨r, kRefl s⟩
  · exact wpAny_loadName_free q.kind h1 h2 h3 ⟨r, kRefl s⟩ hcd
theorem qe_int {i : Int} {j : Nat} : QE X H env nms vs k (.Constant (.int i) j pos) (.int i) := fun A E s hA hd q => wpAny_Constant_int ⟨⟨_, rfl⟩, kTok s _⟩
theorem qe_str {x : Str} {j : Nat} : QE X H env nms vs k (.Constant (.str x) j pos) (.str x) := fun A E s hA hd q => Calls.Constant_str ⟨⟨_, rfl⟩, kTok s _⟩
/-- a global of the program -/
theorem qe_glob {x : Str} {u : Value} {v : V} (hg : env.kindOf x = some .globalImplicit) (hm : X.mg x = some u) (r : RelV v u) (hd : (x == ("__debug__" : Str)) = false := by decide) : QE X H env nms vs k (.Name x pos) v := fun A E s hA hdp q =>
  Calls.Name_function_global q.kind hg (Calls.loadGlobal_global (by rw [q.glob]; exact q.mod.glob.keeps q.bk) hm ⟨r, kRefl s⟩) hd
theorem qe_blt {x : Str} {u : Value} {Q : Value → Shared → Prop} {A : Around} {E : Value → Shared → Prop} {s : Shared} (q : QS X H env nms vs s) (hg : env.kindOf x = some .globalImplicit) (hm : X.mg x = none) (hv : bootBuiltins x = some u) (h : Q u s)
    (hn : x ≠ "__name__" := by decide) (hd : (x == ("__debug__" : Str)) = false := by decide) : wpAny (model X.prog X.w) A (eval (.Name x pos) env) Q E s := by
  obtain ⟨mb, h1, h2⟩ := q.mod.blt
  exact Calls.Name_function_global q.kind hg (Calls.loadGlobal_builtin (by rw [q.glob]; exact q.mod.glob.keeps q.bk) hm (by rw [q.blt]; exact h1.keeps q.bk) ((h2 x hn).trans hv) h) hd
/-- a op b of ints, as a comparison -/
theorem qe_cmp {a b : Expr} {op : CmpOp} {i j : Int} {r : Bool} (ha : QE X H env nms vs k a (.int i)) (hb : QE X H env nms vs k b (.int j))
    (hop : ∀ (A : Around) (E : Value → Shared → Prop) (s : Shared) (t u : Tok) (Q : Value → Shared → Prop), Q (.bool r) s → wpAny (model X.prog X.w) A (compareOp op (.int i t) (.int j u)) Q E s) (hm : behindInMarks op b = false := by with_unfolding_all rfl) :
    QE X H env nms vs k (.Compare a [op] [b] pos) (.bl r) := fun A E s hA hd q => by
  refine wpAny_Compare1 (wpAny_mono (ha A E s hA hd q) (fun y s1 ⟨⟨t, e1⟩, k1⟩ => wpAny_mono (hb A E s1 hA hd (q.keeps k1)) (fun z s2 ⟨⟨u, e2⟩, k2⟩ => ?_) fun _ _ x => x) fun _ _ x => x) hm
  subst e1 e2
  exact hop A E s2 t u _ ⟨rfl, keepsTrans k1 k2⟩
theorem qe_chain {a b c : Expr} {op op' : CmpOp} {i j l : Int} {r r' : Bool} (ha : QE X H env nms vs k a (.int i)) (hb : QE X H env nms vs k b (.int j)) (hc : QE X H env nms vs k c (.int l))
    (hop : ∀ (A : Around) (E : Value → Shared → Prop) (s : Shared) (t u : Tok) (Q : Value → Shared → Prop), Q (.bool r) s → wpAny (model X.prog X.w) A (compareOp op (.int i t) (.int j u)) Q E s)
    (hop' : ∀ (A : Around) (E : Value → Shared → Prop) (s : Shared) (t u : Tok) (Q : Value → Shared → Prop), Q (.bool r') s → wpAny (model X.prog X.w) A (compareOp op' (.int j t) (.int l u)) Q E s) (hm : lastMarks [op, op'] [b, c] = false := by with_unfolding_all rfl) :
    QE X H env nms vs k (.Compare a [op, op'] [b, c] pos) (.bl (r && r')) := fun A E s hA hd q => by
  refine Compare_chain (wpAny_mono (ha A E s hA hd q) (fun y s1 ⟨⟨t, e1⟩, k1⟩ => chain_link (wpAny_mono (hb A E s1 hA hd (q.keeps k1)) (fun z s2 ⟨⟨u, e2⟩, k2⟩ => ?_) fun _ _ x => x)) fun _ _ x => x) hm
  subst e1 e2
  refine hop A E s2 t u _ (wpAny_truthy_bool ?_)
  cases r with
  | false => exact ite_ff ⟨rfl, keepsTrans k1 k2⟩
  | true =>
    refine ite_tt (chain_last (wpAny_mono (hc A E s2 hA hd ((q.keeps k1).keeps k2)) (fun z' s3 ⟨⟨u', e3⟩, k3⟩ => ?_) fun _ _ x => x))
    subst e3
    exact hop' A E s3 u u' _ ⟨rfl, keepsTrans (keepsTrans k1 k2) k3⟩
theorem qe_one {a : Expr} {op} {x : V} (ha : QE X H env nms vs k a x) : QE X H env nms vs k (.BoolOp op [a] pos) x := fun A E s hA hd q => BoolOp_one (ha A E s hA hd q)
theorem qe_and {a b : Expr} {rest : List Expr} {r r' : Bool} (ha : QE X H env nms vs k a (.bl r)) (hb : r = true → QE X H env nms vs k (.BoolOp .And (b :: rest) pos) (.bl r')) : QE X H env nms vs k (.BoolOp .And (a :: b :: rest) pos) (.bl (r && r')) := fun A E s hA hd q => by
  refine BoolOp_and (wpAny_mono (ha A E s hA hd q) (fun y s1 ⟨e1, k1⟩ => ?_) fun _ _ x => x)
  cases e1
  refine wpAny_truthy_bool ?_
  cases r with
  | false => exact ⟨rfl, k1⟩
  | true => exact wpAny_mono (hb rfl A E s1 hA hd (q.keeps k1)) (fun z s2 ⟨e2, k2⟩ => ⟨by simpa using e2, keepsTrans k1 k2⟩) fun _ _ x => x
theorem qe_not {a : Expr} {r : Bool} (ha : QE X H env nms vs k a (.bl r)) : QE X H env nms vs k (.UnaryOp .Not a pos) (.bl (!r)) := fun A E s hA hd q => by
  refine UnaryOp_ (wpAny_mono (ha A E s hA hd q) (fun y s1 ⟨e1, k1⟩ => ?_) fun _ _ x => x)
  cases e1
  exact not_of (wpAny_truthy_bool ⟨rfl, k1⟩)
theorem qe_mul {a b : Expr} {i j : Int} (ha : QE X H env nms vs k a (.int i)) (hb : QE X H env nms vs k b (.int j)) (hm : IntMulOk i j) : QE X H env nms vs k (.BinOp a .Mult b pos) (.int (i * j)) := fun A E s hA hd q => by
  refine wpAny_BinOp (wpAny_mono (ha A E s hA hd q) (fun y s1 ⟨⟨t, e1⟩, k1⟩ => wpAny_mono (hb A E s1 hA hd (q.keeps k1)) (fun z s2 ⟨⟨u, e2⟩, k2⟩ => ?_) fun _ _ x => x) fun _ _ x => x)
  subst e1 e2
  exact PySem.P.mul_int ⟨⟨_, rfl⟩, keepsTrans (keepsTrans k1 k2) (kTok _ _)⟩ hm
/-! ### arguments -/
def QA (X : QX) (H : Hp) (env : Env) (nms : List Str) (vs : List V) (k : Nat) (es : List Expr) (xs : List V) : Prop :=
  ∀ (A : Around) (E : Value → Shared → Prop) (s : Shared) (pos : Pos), A.handled = none → A.depth + k < recursionLimit → QS X H env nms vs s → wpAny (model X.prog X.w) A (spliced (backTo pos (starEach es env))) (fun us s' => Vals xs us ∧ Keeps s s') E s
theorem qa_nil : QA X H env nms vs k [] [] := fun A E s pos hA hd q => Calls.spliced_nil ⟨.nil, kRefl s⟩
theorem qa_cons {e : Expr} {es : List Expr} {x : V} {xs : List V} (he : QE X H env nms vs k e x) (hr : QA X H env nms vs k es xs) (hs : starEach (e :: es) env = (false, eval e env) :: starEach es env := by rfl) : QA X H env nms vs k (e :: es) (x :: xs) := fun A E s pos hA hd q => by
  rw [hs]
  show wpAny _ _ (spliced ((false, eval e env) :: backTo pos (starEach es env))) _ _ s
  refine Calls.spliced_cons (wpAny_mono (he A E s hA hd q) (fun u s1 ⟨r1, k1⟩ => ?_) fun _ _ x => x)
  exact wpAny_mono (hr A E s1 pos hA hd (q.keeps k1)) (fun us s2 ⟨r2, k2⟩ => ⟨.cons r1 r2, keepsTrans k1 k2⟩) fun _ _ x => x
/-- a call of a built-in function -/
theorem qe_callB {x : Str} {e : Expr} {es : List Expr} {p : Pos} {b : String} {xs : List V} {y : V} (hg : env.kindOf x = some .globalImplicit) (hm : X.mg x = none) (hv : bootBuiltins x = some (.builtin b)) (ha : QA X H env nms vs k (e :: es) xs)
    (hc : ∀ (A : Around) (E : Value → Shared → Prop) (s : Shared) (us : List Value) (Q : Value → Shared → Prop), A.handled = none → A.depth + k < recursionLimit → QS X H env nms vs s → Vals xs us → (∀ u s', RelV y u → Keeps s s' → Q u s') → wpAny (model X.prog X.w) A (call (.builtin b) us) Q E s)
    (hn : x ≠ "__name__" := by decide) (hdb : (x == ("__debug__" : Str)) = false := by decide) (he : starEach (e :: es) env = (false, eval e env) :: starEach es env := by rfl) (hpl : (backTo pos (starEach es env)).any (·.1) = false := by rfl) :
    QE X H env nms vs k (.Call (.Name x p) (e :: es) [] pos) y := fun A E s hA hd q => by
  refine wpAny_Call_Name_kw (qe_blt q hg hm hv ?_ hn hdb)
  refine PyProof.Rows.callWith_builtin1 (wpAny_mono (ha A E s pos hA hd q) (fun us s1 ⟨r1, k1⟩ => ?_) fun _ _ x => x) he hpl
  exact hc A E s1 us _ hA hd (q.keeps k1) r1 fun u s' r k2 => ⟨r, keepsTrans k1 k2⟩
theorem qe_ty {x : Str} {T : String} {p : Pos} (hg : env.kindOf x = some .globalImplicit) (hm : X.mg x = none) (hv : bootBuiltins x = some (.type T)) (hn : x ≠ "__name__" := by decide) (hd : (x == ("__debug__" : Str)) = false := by decide) : QE X H env nms vs k (.Name x p) (.ty T) := fun A E s hA hdp q =>
  qe_blt q hg hm hv ⟨rfl, kRefl s⟩ hn hd
/-- the type of a value -/
def TyQ (K : PySem.W.Frag) (H : Hp) (x : V) (T : String) : Prop := match x with
  | .non => T = "NoneType" | .bl _ => T = "bool" | .int _ => T = "int" | .str _ => T = "str"
  | .ref a => (T = "list" ∧ ∃ xs, Rd H a (.lst xs)) ∨ (T = "tuple" ∧ ((∃ xs, Rd H a (.tup xs)) ∨ ∃ o, K.lookup a = some o ∧ o.cls = .type "tuple")) ∨ (T = "dict" ∧ ∃ kvs, H a = some (.dK kvs))
  | _ => False
theorem kit_q {x : V} {u : Value} {T : String} {s : Shared} (q : QS X H env nms vs s) (rx : RelV x u) (ty : TyQ X.K H x T) : ∃ P : Heap → Prop, PySem.W.KitX X.K u (.type T) P ∧ P s.heap ∧ u ≠ .builtin "__main__.__loader__#opaque" := by
  cases x with
  | non => cases (show u = Value.none from rx); cases (show T = "NoneType" from ty); exact ⟨_, PySem.W.kitx_none, True.intro, fun z => nomatch z⟩
  | bl y => cases (show u = Value.bool y from rx); cases (show T = "bool" from ty); exact ⟨_, PySem.W.kitx_bool, True.intro, fun z => nomatch z⟩
  | int i => obtain ⟨t, z⟩ := (show ∃ t, u = Value.int i t from rx); cases z; cases (show T = "int" from ty); exact ⟨_, PySem.W.kitx_int, True.intro, fun z => nomatch z⟩
  | str y => obtain ⟨t, z⟩ := (show ∃ t, u = Value.str y t from rx); cases z; cases (show T = "str" from ty); exact ⟨_, PySem.W.kitx_str, True.intro, fun z => nomatch z⟩
  | ref a =>
    cases (show u = Value.ref a from rx)
    rcases ty with ⟨e, xs, h⟩ | ⟨e, h⟩ | ⟨e, kvs, h⟩
    · subst e
      obtain ⟨_, _, n, _, h1⟩ := Rd.ok h q.hok
      exact ⟨_, PySem.W.kitx_list, ⟨_, h1, rfl⟩, fun z => nomatch z⟩
    · subst e
      rcases h with ⟨xs, h⟩ | ⟨o, h1, h2⟩
      · obtain ⟨_, _, _, o, h1, h2, _⟩ := Rd.ok h q.hok
        exact ⟨_, PySem.W.kitx_tuple, ⟨o, h1, h2⟩, fun z => nomatch z⟩
      · exact ⟨_, PySem.W.kitx_tuple, ⟨o, q.kin a o h1, h2⟩, fun z => nomatch z⟩
    · subst e
      obtain ⟨_, _, ws, _, o, es, ep, h1, h2, _⟩ := (show ObjOk X.prog X.w H s.heap a (.dK kvs) from q.hok a _ h)
      exact ⟨_, PySem.W.kitx_dict, ⟨o, h1, h2.1⟩, fun z => nomatch z⟩
  | _ => exact (show False from ty).elim
theorem qe_isi {x : Str} {e : Expr} {y : V} {T U : String} {b : Bool} {p p2 : Pos} (hg : env.kindOf "isinstance" = some .globalImplicit) (hm : X.mg "isinstance" = none) (hgT : env.kindOf x = some .globalImplicit) (hmT : X.mg x = none) (hvT : bootBuiltins x = some (.type T))
    (he : QE X H env nms vs k e y) (ty : TyQ X.K H y U) (hk : kitB U T = some b) (hn : x ≠ "__name__" := by decide) (hd : (x == ("__debug__" : Str)) = false := by decide)
    (hs : starEach [e, .Name x p2] env = (false, eval e env) :: starEach [.Name x p2] env := by rfl) (hs2 : starEach [.Name x p2] env = (false, eval (.Name x p2) env) :: starEach [] env := by rfl) (hpl : (backTo pos (starEach [.Name x p2] env)).any (·.1) = false := by rfl) :
    QE X H env nms vs k (.Call (.Name "isinstance" p) [e, .Name x p2] [] pos) (.bl b) :=
  qe_callB hg hm PyProof.Rows.Boot.«isinstance» (qa_cons he (qa_cons (qe_ty hgT hmT hvT hn hd) qa_nil hs2) hs) (fun A E s us Q hA hdp q r h => by
    obtain ⟨u1, u2, rfl, r1, r2⟩ := vals2 r
    obtain rfl : u2 = Value.type T := r2
    obtain ⟨P, Z, p, hx⟩ := kit_q q r1 ty
    exact PySem.W.kia_one Z q.kin p (kit_ty hk) hx fun tk => h _ _ rfl (kTok s tk)) (by decide) (by decide) hs hpl
theorem qe_lenS {e : Expr} {y : Str} {p : Pos} (hg : env.kindOf "len" = some .globalImplicit) (hm : X.mg "len" = none) (he : QE X H env nms vs k e (.str y)) (hl : y.length ≤ sizeLine)
    (hs : starEach [e] env = (false, eval e env) :: starEach [] env := by rfl) (hpl : (backTo pos (starEach [] env)).any (·.1) = false := by rfl) : QE X H env nms vs k (.Call (.Name "len" p) [e] [] pos) (.int y.length) :=
  qe_callB hg hm PySem.boot_len (qa_cons he qa_nil hs) (fun A E s us Q hA hdp q r h => by
    obtain ⟨u, rfl, t, rfl⟩ := vals1 r
    have hs : sizeLine = 16777216 := sizeLine_eq
    exact len_str (by omega) (h _ _ ⟨_, rfl⟩ (kTok s _))) (by decide) (by decide) hs hpl
/-- x in C, C a tuple of texts of the written part -/
theorem qe_inK {a b : Expr} {y : Str} {c : Addr} {ys : List Str} (ha : QE X H env nms vs k a (.str y)) (hb : QE X H env nms vs k b (.ref c)) (hc : KTup X.K c (ys.map V.str)) (hm : behindInMarks .In b = false := by with_unfolding_all rfl) :
    QE X H env nms vs k (.Compare a [.In] [b] pos) (.bl (ys.any fun z => z == y)) := fun A E s hA hd q => by
  refine wpAny_Compare1 (wpAny_mono (ha A E s hA hd q) (fun u s1 ⟨r1, k1⟩ => wpAny_mono (hb A E s1 hA hd (q.keeps k1)) (fun w s2 ⟨r2, k2⟩ => ?_) fun _ _ x => x) fun _ _ x => x) hm
  obtain rfl : w = Value.ref c := r2
  obtain ⟨o, its, n, h1, h2, h3, h4, h5, _⟩ := hc
  have pl : s2.heap.IsTuple c its := ⟨o, ((q.keeps k1).keeps k2).kin c o h1, h2, n, h3⟩
  have fs : (ys.map V.str).all flatV = true := by
    rw [List.all_eq_true]
    intro v hv
    obtain ⟨z, _, rfl⟩ := List.mem_map.mp hv
    rfl
  refine SeqAt.in_tupleAt (eqU (.str y)) pl (fun w hw => mem_eqAt r1 rfl h5 fs w (by simpa using hw)) ⟨?_, keepsTrans k1 k2⟩
  have e : its.any (eqU (V.str y)) = ys.any fun z => z == y := by
    have h := any_eqU (x := V.str y) h5 fs
    rw [List.any_map] at h
    rw [← Array.any_toList]
    exact h
  rw [e]
  rfl
/-! ### a def that only returns -/
/-- at f: def x(ps): return e0; called with vs it gives y -/
structure FnQ (X : QX) (ps : List Str) (e0 : Expr) (sc : Scope) (f : Addr) (fd : FuncData) : Prop where
  ex : ∃ (oc : Value) (od : Option Addr) (name qual : Str) (pa : Arguments) (p0 : Pos) (dV kV doc pm : Value) (an : Option Addr) (cdv ct : Value) (osl : Array (Option Value)),
    fd = PySem.W.fnOf name qual pa [.Return (some e0) p0] sc dV kV doc pm an cdv ct ∧ X.K.lookup f = some ⟨oc, od, .func fd, osl⟩ ∧ PySem.W.codeIn X.K cdv qual = true
  loc : ∀ y ∈ ps, sc.names.lookup y = some .local
  nd : ps.Nodup
  co : sc.isCoroutine = false
  gen : sc.isGenerator = false
  kind : sc.kind = .function
  kp : PySem.W.keepIn X.K (.ref f) = true
  bd : Binds X.K fd ps []
theorem runQ {ps : List Str} {e0 : Expr} {sc : Scope} {f : Addr} {fd : FuncData} {ws : List V} {y : V} (F : FnQ X ps e0 sc f fd) (hl : ws.length = ps.length)
    (hbody : ∀ env', env'.scope = sc → QE X H env' ps ws k e0 y) {A : Around} {E : Value → Shared → Prop} {s : Shared} {us : List Value} {Q : Value → Shared → Prop} (hA : A.handled = none) (hd : A.depth + (k + 1) < recursionLimit) (q : QS X H env nms vs s) (r : Vals ws us)
    (h : ∀ u s', RelV y u → Keeps s s' → Q u s') : wpAny (model X.prog X.w) A (call (.ref f) us) Q E s := by
  obtain ⟨oc, od, name, qual, pa, p0, dV, kV, doc, pm, an, cdv, ct, osl, rfl, lk, hcd⟩ := F.ex
  have hul : (us ++ []).length = ps.length := by rw [List.append_nil, ← r.length, hl]
  have b := F.bd s us q.kin hul
  rw [List.append_nil] at b
  refine wpAny_call (Att.call_fn (K := X.K) (binds := ps.zip us) q.kin q.lim lk hcd (by omega) b ?_ (fun s1 IC => ?_) F.co F.gen F.kind)
  · rw [List.all_eq_true]
    intro z hz
    have := F.loc z.1 (List.of_mem_zip (a := z.1) (b := z.2) hz).1
    simp [this]
  · obtain ⟨h1, tk1, rfl, hk⟩ := IC.done
    have kp : Keeps s { s with heap := h1, toks := tk1 } := ⟨h1, tk1, rfl, hk⟩
    have q0 := q.keeps kp
    have q1 : QS X H (envOfC qual sc s.heap.objs.size f cdv) ps ws { s with heap := h1, toks := tk1 } := by
      refine ⟨q0.mod, q0.bk, q0.lim, F.kind, rfl, rfl, q0.hok, fun i x v e1 e2 => ?_⟩
      obtain ⟨u, hu, ru⟩ := r.get e2
      have hx : (envOfC qual sc s.heap.objs.size f cdv).kindOf x = some .local := F.loc x (List.mem_of_getElem? e1)
      exact ⟨u, ru, .inl ⟨hx, _, IC.toInCall.ns, bindL_get F.nd e1 hu hx⟩⟩
    refine wpAny_execs_cons (wpAny_Return_some (wpAny_mono (hbody _ rfl (A.deeper (envOfC qual sc s.heap.objs.size f cdv)) _ _ hA (by show A.depth + 1 + k < _; omega) q1) (fun u s2 ⟨r2, k2⟩ => ?_) fun _ _ x => x))
    exact h u s2 r2 (keepsTrans kp k2)
theorem qe_call {x : Str} {e : Expr} {es : List Expr} {p : Pos} {ps : List Str} {e0 : Expr} {sc : Scope} {f : Addr} {fd : FuncData} {ws : List V} {y : V} (F : FnQ X ps e0 sc f fd) (hg : env.kindOf x = some .globalImplicit) (hm : X.mg x = some (.ref f)) (ha : QA X H env nms vs k (e :: es) ws) (hl : ws.length = ps.length)
    (hbody : ∀ env', env'.scope = sc → QE X H env' ps ws k e0 y) (hdb : (x == ("__debug__" : Str)) = false := by decide) (he : starEach (e :: es) env = (false, eval e env) :: starEach es env := by rfl) (hpl : (backTo pos (starEach es env)).any (·.1) = false := by rfl) :
    QE X H env nms vs (k + 1) (.Call (.Name x p) (e :: es) [] pos) y := fun A E s hA hd q => by
  refine wpAny_Call_Name_kw (Calls.Name_function_global q.kind hg (Calls.loadGlobal_global (by rw [q.glob]; exact q.mod.glob.keeps q.bk) hm ?_) hdb)
  refine PySem.W.callWith_K (h₀ := X.base) q.mod.kin F.kp (wpAny_mono (ha A E s pos hA (by omega) q) (fun us s1 ⟨r1, k1⟩ => ⟨(q.keeps k1).kin, ?_⟩) fun _ _ x => x) he hpl
  exact runQ F hl hbody hA hd (q.keeps k1) r1 fun u s' r k2 => ⟨r, keepsTrans k1 k2⟩
end
end DL

namespace DL
open PySem PySem.Spec PyProof.Rows L2
/-! ## generator expressions -/
/-- the walk of such a sequence by a new iterator at it -/
structure WkK (P : Program) (w : World) (k : SK) (it : Addr) (o : Obj) (h : Heap) (vs : List V) (n : Nat) (Pi : Nat → Value → Prop) (S : Nat → Heap → Prop) : Prop where
  wk : ∀ A' : Around, A'.handled = none → Walks P w A' it (it :: k.ad) [it] n Pi S
  len : n = vs.length
  val : ∀ i v, Pi i v → ∃ x, vs[i]? = some x ∧ RelV x v
  st0 : ∀ h', h'.get? it = some o → (∀ b ∈ k.ad, ∀ u, h.get? b = some u → h'.get? b = some u) → S 0 h'
  cls : ∀ i h, S i h → ∃ o n vs, h.get? it = some o ∧ o.cls = .type n ∧ o.data = .fields vs ∧ ["enumerate", "zip", "dict_itemiterator", "dict_reverseitemiterator", "odict_iterator", "itertools.zip_longest", "itertools.pairwise"].contains n = false
theorem wk_of {X : Cx} {pins : List (Addr × Obj)} {σ : L2.St} {H : Hp} {s : Shared} {k : SK} {u : Value} {vs : List V} (I : Inv X pins σ H s) (r : RelV k.v u) (q : k.stand X.K H vs) :
    ∃ o t Hh n Pi S, BegK k u s.heap o t Hh ∧ WkK X.prog X.w k s.heap.objs.size o s.heap vs n Pi S := by
  obtain ⟨o, t, Hh, B⟩ := beg_of I r q
  cases k with
  | l a =>
    obtain ⟨its, rv, p, hz⟩ := I.list q
    obtain rfl : u = Value.ref a := r
    refine ⟨{ cls := .type "list_iterator", data := .fields #[.ref a, .int 0 0] }, 0, _, its.toArray.size, _, _, ⟨begins_list a its.toArray, p.isList, fun h' it e => ⟨_, e, rfl, rfl⟩, B.lt⟩, ⟨fun A' hA => Walks.list hA s.heap.objs.size a (Nat.ne_of_lt p.lt) its.toArray, ?_, fun i v hv => ?_, fun h' e kk => ⟨⟨_, e, rfl, rfl⟩, p.isList.at fun o e => kk a (by simp [SK.ad]) o e⟩, fun i h ⟨⟨o, e, c, d⟩, _⟩ => ⟨o, _, _, e, c, d, by decide⟩⟩⟩
    · rw [List.size_toArray, ← rv.length]
    · exact pget rv (by simpa using hv)
  | t a =>
    obtain ⟨its, rv, p, hz⟩ := I.tuple q
    obtain rfl : u = Value.ref a := r
    obtain ⟨ot, eot, _⟩ := id p
    refine ⟨{ cls := .type "tuple_iterator", data := .fields #[.ref a, .int 0 0] }, 0, _, its.toArray.size, _, _, ⟨begins_tuple a its.toArray, p, fun h' it e => ⟨_, e, rfl, rfl⟩, B.lt⟩, ⟨fun A' hA => Walks.tuple hA s.heap.objs.size a (Nat.ne_of_lt (Heap.lt_size eot)) its.toArray, ?_, fun i v hv => ?_, fun h' e kk => ⟨⟨_, e, rfl, rfl⟩, Heap.IsTuple.at p fun o e => kk a (by simp [SK.ad]) o e⟩, fun i h ⟨⟨o, e, c, d⟩, _⟩ => ⟨o, _, _, e, c, d, by decide⟩⟩⟩
    · rw [List.size_toArray, ← rv.length]
    · exact pget rv (by simpa using hv)
  | s x =>
    have q : vs = x.cps.toList.map fun c => V.str ⟨#[c]⟩ := q
    obtain ⟨t', rfl⟩ := (show ∃ t, u = Value.str x t from r)
    have W : ∀ A' : Around, A'.handled = none → Walks X.prog X.w A' s.heap.objs.size [s.heap.objs.size] [s.heap.objs.size] x.cps.size (SignAt x) (fun i h => h.IsStrIter s.heap.objs.size (strIterType x) x t' i) := fun A' hA => by
      cases ha : x.cps.all (· < 128)
      · simp only [strIterType, ha, Bool.false_eq_true, if_false]
        exact Walks.strWide hA _ x t'
      · simp only [strIterType, ha, if_true]
        exact Walks.strAscii hA _ x t'
    refine ⟨{ cls := .type (strIterType x), data := .fields #[.str x t', .int 0 0] }, t', _, x.cps.size, _, _, ⟨begins_text x t', trivial, fun h' it e => ⟨_, e, rfl, rfl⟩, B.lt⟩, ⟨W, ?_, fun i v hv => ?_, fun h' e kk => ⟨_, e, rfl, rfl⟩, fun i h ⟨o, e, c, d⟩ => ⟨o, _, _, e, c, d, ?_⟩⟩⟩
    · rw [q]; simp
    · obtain ⟨c, u, e1, rfl⟩ := hv
      refine ⟨.str ⟨#[c]⟩, ?_, u, rfl⟩
      rw [q, List.getElem?_map, Array.getElem?_toList, e1]
      rfl
    · cases ha : x.cps.all (· < 128)
      · simp only [strIterType, ha, Bool.false_eq_true, if_false]; decide
      · simp only [strIterType, ha, if_true]; decide
/-- the generator g, ready to be walked -/
structure ReadyG (X : Cx) (pins : List (Addr × Obj)) (σ : L2.St) (H : Hp) (P : Addr) (n : Nat) (F : Nat → Value → Prop) (g : Addr) (s5 : Shared) : Prop where
  ex : ∃ (fp wr : List Addr) (G : Array GenState → Array GenState → Prop) (S : Nat → Shared → Prop), WalksS X.prog X.w X.A.in1 g fp wr G n F S ∧ S 0 s5 ∧ (∀ b ∈ fp, b < s5.heap.objs.size) ∧
    ∀ s', Moved wr G s5 s' → ∃ ps : Array Value, TriplesOk ps.toList ∧ Inv X pins σ (upd H P (.tbl ps)) s'
abbrev qx (X : Cx) : QX := ⟨X.prog, X.w, X.K, X.mg, X.base⟩
def noP (H : Hp) (P : Addr) : Hp := fun b => if b = P then none else H b
/-- what the elements see: the names, their values -/
structure Caps (X : Cx) (scope : Scope) (caps : List Str) (σ : L2.St) (cvs : List V) : Prop where
  len : caps.length = cvs.length
  at_ : ∀ (i : Nat) (y : Str) (v : V), caps[i]? = some y → cvs[i]? = some v → (y, NameKind.free) ∈ scope.names ∧ scope.names.lookup y = some .free ∧ X.env.kindOf y = some .cell ∧ ∃ j : Nat, X.N[j]? = some y ∧ σ[j]? = some (some v)
theorem clo_lookup {cells : List (Str × Addr)} {names : List (Str × NameKind)} {n : Str} {c : Addr} (h : (n, NameKind.free) ∈ names) (e : cells.lookup n = some c) : (cloFrom cells names []).lookup n = some c := by
  have h1 := cloFrom_has (cells := cells) (acc := []) h
  obtain ⟨c', h2⟩ := mem_lookup h1
  have h3 := PySem.mem_of_lookup h2
  rcases cloFrom_mem h3 with q | ⟨_, q⟩
  · cases q
  · rw [h2, q, e]; rfl
section
variable {X : Cx} {pins : List (Addr × Obj)} {σ : L2.St} {H : Hp} {s : Shared}
/-- what the elements of a generator may rest on, s1 ahead of it, s2 while it runs; N its iterator, P the table -/
theorem qs_gen {P N : Addr} {ps : Array Value} {scope : Scope} {cl : List (Str × Addr)} {C : Addr} {code : Value} {xs caps : List Str} {ws cvs : List V} (I : Inv X pins σ H s) (hP : H P = some (.tbl ps)) (hN : s.heap.objs.size ≤ N)
    {s2 : Shared} (k : ∀ b o, b ≠ P → b ≠ N → s.heap.get? b = some o → s2.heap.get? b = some o) (hkind : scope.kind = .function) (hcl : cl = cloFrom X.env.cells scope.names [])
    (hc : Caps X scope caps σ cvs) (hl : xs.length = ws.length) {m : Str → Option Value} (hn : s2.heap.Ns C m) (hx : ∀ (i : Nat) x w, xs[i]? = some x → ws[i]? = some w → scope.names.lookup x = some .local ∧ ∃ u, RelV w u ∧ m x = some u) :
    QS (qx X) (noP H P) (genEnv scope cl C code builtinsNs X.env) (xs ++ caps) (ws ++ cvs) s2 := by
  have hPs : s.heap.get? P = some { cls := .none, data := .fields ps } := I.hok P _ hP
  have bP : ∀ b o, X.base.get? b = some o → b ≠ P := fun b o e z => by
    have := (I.bs b o e).2
    rw [z, hP] at this; cases this
  have bN : ∀ b o, s.heap.get? b = some o → b ≠ N := fun b o e => Nat.ne_of_lt (Nat.lt_of_lt_of_le (Heap.lt_size e) hN)
  refine ⟨I.mod, fun b o e => k b o (bP b o e) (bN b o (I.bk b o e)) (I.bk b o e), ?_, hkind, I.ok.glob, rfl, fun b u e => ?_, fun i x v e1 e2 => ?_⟩
  · obtain ⟨mm, p, q⟩ := I.mod.nolimit
    obtain ⟨o, es, ep, ho, _⟩ := id p
    exact Heap.NoLimit.at I.mod.nolimit fun o e => k _ _ (bP _ _ e) (bN _ _ (I.bk _ _ e)) (I.bk _ _ e)
  · unfold noP at e
    by_cases hb : b = P
    · rw [if_pos hb] at e; cases e
    · rw [if_neg hb] at e
      refine (I.hok b u e).stay (fun d v hd y => k d v ?_ (bN d v y) y) (fun d y => ?_) fun d xs y => ?_
      · rcases hd with z | z
        · rw [z]; exact hb
        · intro w; rw [w, hP] at z; cases z
      · unfold noP; rw [if_neg (fun w => by rw [w, hP] at y; cases y)]; exact y
      · unfold noP; rw [if_neg (fun w => by rw [w, hP] at y; cases y)]; exact y
  · by_cases hi : i < xs.length
    · rw [List.getElem?_append_left hi] at e1
      rw [List.getElem?_append_left (by omega)] at e2
      obtain ⟨h1, u, r, h2⟩ := hx i x v e1 e2
      exact ⟨u, r, .inl ⟨h1, m, hn, h2⟩⟩
    · rw [List.getElem?_append_right (Nat.le_of_not_lt hi)] at e1
      rw [List.getElem?_append_right (by omega), ← hl] at e2
      obtain ⟨h0, h1, h2, j, h3, h4⟩ := hc.at_ _ x v e1 e2
      obtain ⟨m0, hn0, hl0⟩ := I.loc
      obtain ⟨u, r, l⟩ := hl0 j x v h3 h4 (.inr (.inl h2))
      refine ⟨u, r, .inr ⟨h1, ?_⟩⟩
      rcases l with ⟨z, _⟩ | ⟨_, c, hc1, hc2⟩
      · rw [h2] at z; cases z
      · refine ⟨c, by rw [hcl]; exact clo_lookup h0 hc1, ?_⟩
        obtain ⟨o, eo, ro⟩ := hc2
        refine ⟨o, k c o (fun z => ?_) (bN c o eo) eo, ro⟩
        rw [z, hPs] at eo
        cases eo
        cases ro
end
end DL

namespace DL
open PySem PySem.Spec PyProof.Rows L2 GxR
/-- the generator expression's own scope: its names xs -/
structure GenN (env : Env) (scope : Scope) (xs : List Str) : Prop where
  kind : scope.kind = .function
  co : scope.isCoroutine = false
  cell : ∀ y ∈ scope.names, y.2 ≠ .cell
  dot : scope.names.lookup (".0" : Str) = some NameKind.local
  loc : ∀ x ∈ xs, scope.names.lookup x = some .local
  free : ∀ y ∈ scope.names, y.2 = .free → ∃ c, env.cells.lookup y.1 = some c
theorem walksMono {prog : Program} {w : World} {A : Around} {I : Addr} {fp wr : List Addr} {G : Array GenState → Array GenState → Prop} {n : Nat} {P P' : Nat → Value → Prop} {St : Nat → Shared → Prop} (W : WalksS prog w A I fp wr G n P St) (h : ∀ i v, P i v → P' i v) : WalksS prog w A I fp wr G n P' St :=
  { W with item := fun i s Q E hi st hQ => W.item i s Q E hi st fun v s' hP hs hm => hQ v s' (h i v hP) hs hm }
section
variable {X : Cx} {pins : List (Addr × Obj)} {σ : L2.St} {H : Hp} {s : Shared}
/-- what an element's evaluation must give -/
def EltQ (X : Cx) (H1 : Hp) (P : Addr) (scope : Scope) (xs caps : List Str) (ws cvs : List V) (elt : Expr) (y : V) : Prop := ∀ env' : Env, env'.scope = scope → QE (qx X) (noP H1 P) env' (xs ++ caps) (ws ++ cvs) 3 elt y
theorem gen1 {c P : Addr} {elt iter : Expr} {x : Str} {px gpos : Pos} {scope : Scope} {caps : List Str} {te : TE} {k : Nat} {Q' : Value → Shared → Prop} {R : List V → Hp → Prop}
    (hr : Room k X.A) (TB : TabB X.base X.mg c P) (hcode : X.env.code = .ref c) (S : GenN X.env scope [x]) (hi : PE X iter te)
    (hs : ∀ v, genFold iter X.env v = pure v) (I : Inv X pins σ H s)
    (h : te σ H fun v H1 => ∃ (kk : SK) (vs cvs ys : List V), v = kk.v ∧ kk.stand X.K H1 vs ∧ TabG H1 P ∧ Caps X scope caps σ cvs ∧ ys.length = vs.length ∧ (∀ (i : Nat) w y, vs[i]? = some w → ys[i]? = some y → EltQ X H1 P scope [x] caps [w] cvs elt y) ∧ R ys H1)
    (hQ : ∀ ys H1 g s5, R ys H1 → ReadyG X pins σ H1 P ys.length (fun i u => ∃ y, ys[i]? = some y ∧ RelV y u) g s5 → Q' (.ref g) s5) :
    wpAny (model X.prog X.w) X.A (eval (.GeneratorExp elt [⟨.Name x px, iter, [], 0⟩] scope gpos) X.env) Q' X.xe s := by
  refine wpAny_GeneratorExp_walksQD hr.hd S.co (closure_ok S.free) S.cell S.dot (S.loc x (by simp)) S.kind (by have := hr.dp; omega) ?_ hs
  refine thn (hi.run pins s σ H _ I h) fun xv s1 ⟨v, H1, I1, r1, q1⟩ => ?_
  obtain ⟨kk, vs, cvs, ys, rfl, hq, ⟨ps, hP, ht⟩, hc, hyl, hel, q1⟩ := q1
  obtain ⟨o, t, Hh, n, Pi, St, B, W⟩ := wk_of I1 r1 hq
  refine B.b.iter _ _ _ _ s1 _ B.h0 ?_
  have hPs : s1.heap.get? P = some { cls := .none, data := .fields ps } := I1.hok P _ hP
  have hPlt : P < s1.heap.objs.size := Heap.lt_size hPs
  have hP2 : (s1.heap.push o).get? P = some { cls := .none, data := .fields ps } := Heap.get?_push_of_some _ hPs
  have cd : PySem.W.CodeHd (s1.heap.push o) c P := TB.code.keeps fun b u e => Heap.get?_push_of_some _ (I1.bk b u e)
  have lim2 : (s1.heap.push o).NoLimit := I1.nolimit.push o
  have adP : ∀ b ∈ kk.ad, b ≠ P := fun b hb z => by
    cases kk with
    | l a =>
      have : b = a := by simpa [SK.ad] using hb
      subst this
      obtain ⟨its, rv, p, _⟩ := I1.list hq
      obtain ⟨o', e', cl', _⟩ := p.isList
      rw [z, hPs] at e'; cases e'; cases cl'
    | t a =>
      have : b = a := by simpa [SK.ad] using hb
      subst this
      obtain ⟨its, rv, ⟨o', e', cl', _⟩, _⟩ := I1.tuple hq
      rw [z, hPs] at e'; cases e'; cases cl'
    | s x => simp [SK.ad] at hb
  have cont : ∀ (code : Value) (h3 : Heap) (tk : Nat) (ps' : Array Value), Heap.ExtBut P (s1.heap.push o) h3 → (s1.heap.push o).objs.size ≤ h3.objs.size → h3.get? P = some { cls := .none, data := .fields ps' } → (∃ more, ps' = ps ++ more) → TriplesOk ps'.toList →
      wpAny (model X.prog X.w) X.A (builtinsFor X.env.globals X.env.builtins) (fun bi s₄ =>
        ∃ Ia fp wr n₀ Pf St₀ pz F, Value.ref s1.heap.objs.size = .ref Ia ∧ (∀ A' : Around, A'.handled = none → Walks X.prog X.w A' Ia fp wr n₀ Pf St₀) ∧ St₀ 0 s₄.heap ∧ (∀ b ∈ fp, b < s₄.heap.objs.size) ∧ s₄.heap.NoLimit ∧ cStatics ∉ wr ∧
          (∀ href : Heap, (∀ b o, s₄.heap.get? b = some o → href.get? b = some o) →
            QuietGenD X.prog X.w (genEnv scope (cloFrom X.env.cells scope.names []) s₄.heap.objs.size code bi X.env) x [] elt (List.range s₄.heap.objs.size) wr Pf pz F href (X.A.depth + 1) (X.A.units + 8)) ∧
          (∀ a h₅ tk gs, gs.bare = true → s₄.heap.objs.size < a → h₅.objs.size = a + 1 → (∀ b o, s₄.heap.get? b = some o → h₅.get? b = some o) →
            WalksS X.prog X.w X.A.in4 a (a :: s₄.heap.objs.size :: List.range s₄.heap.objs.size) (s₄.heap.objs.size :: wr) (GenOnlyQ s₄.gens.size) (passing pz n₀ 0).length
              (fun j y => ∃ i, (passing pz n₀ 0)[j]? = some i ∧ F i y) (GenAt X.prog X.w X.A.in4 a s₄.gens.size s₄.heap.objs.size (List.range s₄.heap.objs.size) wr pz n₀ F) →
            GenAt X.prog X.w X.A.in4 a s₄.gens.size s₄.heap.objs.size (List.range s₄.heap.objs.size) wr pz n₀ F 0 { s₄ with gens := s₄.gens.push gs, toks := tk, heap := h₅ } →
            Q' (.ref a) { s₄ with gens := s₄.gens.push gs, toks := tk, heap := h₅ })) X.xe { s1 with heap := h3, toks := tk } := by
    intro code h3 tk ps' hx hsz hP3 hmore ht3
    obtain ⟨bm, ob, e1, e2, e3, e4, e5, e6, e7, e8⟩ := TB.bm
    have hcP : cStatics ≠ P := fun e => by
      obtain ⟨_, hns, _⟩ := I1.nolimit
      obtain ⟨o', es, ep, ho, hd, _⟩ := hns
      rw [e, hPs] at ho
      cases ho
      cases hd
    have hcl : cStatics < s1.heap.objs.size := let ⟨_, hns, _⟩ := I1.nolimit; hns.lt
    have sz2 : (s1.heap.push o).objs.size = s1.heap.objs.size + 1 := Heap.size_push ..
    have keep3 : ∀ b u, b ≠ P → s1.heap.get? b = some u → h3.get? b = some u := fun b u hb e => hx b u hb (Heap.get?_push_of_some _ e)
    refine wpAny_builtinsFor (m := X.mg) (by rw [I1.ok.glob]; exact ((I1.mod.glob.keeps I1.bk).push o).extBut hx TB.gP) e1 e2 (keep3 _ _ e4 (I1.bk _ _ e5)) e6 e7 e8 ?_
    refine ⟨s1.heap.objs.size, s1.heap.objs.size :: kk.ad, [s1.heap.objs.size], n, Pi, St, (fun _ => true), (fun i u => ∃ y, ys[i]? = some y ∧ RelV y u), rfl, W.wk, ?_, ?_, lim2.extBut hx hcP, ?_, ?_, ?_⟩
    · exact W.st0 _ (hx _ _ (Nat.ne_of_gt hPlt) (Heap.get?_push_size _ B.b.free)) fun b hb u e => keep3 b u (adP b hb) e
    · intro b hb
      rcases List.mem_cons.mp hb with z | z
      · rw [z]
        show s1.heap.objs.size < h3.objs.size
        omega
      · have := B.lt b z
        show b < h3.objs.size
        exact Nat.lt_of_lt_of_le (Nat.lt_succ_of_lt this) (Nat.le_trans (Nat.le_of_eq sz2.symm) hsz)
    · intro z
      rcases List.mem_cons.mp z with z | z
      · exact Nat.ne_of_lt hcl z
      · cases z
    · intro href hhref
      refine ⟨fun A' E' i v s₂ m₂ hA hdp hup hPv hn hm hk => ?_, fun A' E' i v s₂ m₂ hA hdp hup hPv hp hn hm hk => ?_⟩
      · simp only [List.forIn_nil]
        exact wpAny_pure ⟨rfl, kRefl _⟩
      · obtain ⟨w, hw, rw'⟩ := W.val i v hPv
        have hlt : i < ys.length := by rw [hyl]; exact (List.getElem?_eq_some_iff.mp hw).1
        have hy : ys[i]? = some ys[i] := List.getElem?_eq_getElem hlt
        have kp : ∀ b u, b ≠ P → b ≠ s1.heap.objs.size → s1.heap.get? b = some u → s₂.heap.get? b = some u := fun b u h1 h2 e =>
          hk b (List.mem_range.mpr (Heap.lt_size (keep3 b u h1 e))) (fun z => h2 (List.mem_singleton.mp z)) u (hhref b u (keep3 b u h1 e))
        have qs := qs_gen (N := s1.heap.objs.size) (C := h3.objs.size) (code := code) (xs := [x]) (ws := [w]) I1 hP (Nat.le_refl _) kp S.kind rfl hc rfl hn (fun j x' w' e1 e2 => by
          cases j with
          | zero => cases e1; cases e2; exact ⟨S.loc _ (by simp), v, rw', hm⟩
          | succ j => simp at e1)
        exact wpAny_mono (hel i w ys[i] hw hy _ rfl A' E' s₂ hA (by have := hr.dp; omega) qs) (fun u s3 ⟨r3, k3⟩ => ⟨⟨_, hy, r3⟩, k3⟩) fun _ _ e => e
    · intro g h5 tk5 gs hgb hag hsz5 hk5 W5 hat
      simp only [GxR.passing_true, List.length_range] at W5
      have hn' : n = ys.length := by rw [W.len, hyl]
      subst hn'
      refine hQ ys H1 g _ q1 ⟨g :: h3.objs.size :: List.range h3.objs.size, _, _, _, walksMono W5.in4_1 fun j u hu => ?_, hat, fun b hb => ?_, fun s' hm => ?_⟩
      · obtain ⟨i, hij, y, hy, r⟩ := hu
        obtain ⟨hj, ej⟩ := List.getElem?_eq_some_iff.mp hij
        rw [List.getElem_range] at ej
        subst ej
        exact ⟨y, hy, r⟩
      · show b < h5.objs.size
        rw [hsz5]
        have hag : h3.objs.size < g := hag
        rcases List.mem_cons.mp hb with z | z
        · rw [z]; exact Nat.lt_succ_self _
        · rcases List.mem_cons.mp z with z | z
          · rw [z]; exact Nat.lt_succ_of_lt hag
          · exact Nat.lt_succ_of_lt (Nat.lt_trans (List.mem_range.mp z) hag)
      · obtain ⟨more, em⟩ := hmore
        have nwr : ∀ b u, s1.heap.get? b = some u → b ∉ h3.objs.size :: [s1.heap.objs.size] := fun b u e hb => by
          have hl := Heap.lt_size e
          rcases List.mem_cons.mp hb with z | z
          · rw [z] at hl
            have h9 : (h3.objs.size : Nat) < s1.heap.objs.size := hl
            omega
          · rcases List.mem_cons.mp z with z | z
            · rw [z] at hl
              exact Nat.lt_irrefl _ hl
            · cases z
        have J := inv_tab (more := more) (h' := s'.heap) (g' := s'.gens) (d' := s'.drawn) (t' := s'.toks) I1 hP (fun b u hb e => hm.heap b u (nwr b u e) (hk5 b u (keep3 b u hb e)))
          (by rw [← em]; exact hm.heap P _ (nwr P _ hPs) (hk5 P _ hP3)) (AllBare.movedS (I1.bare.push hgb) hm)
        rw [sh_eta s1 s' hm.os] at J
        exact ⟨ps ++ more, by rw [← em]; exact ht3, J⟩
  refine ⟨lim2, ?_⟩
  cases hf : codeAmong gpos ps.toList with
  | none =>
    refine wpAny_genexprCodeX hcode (cd.code hP2 ht) (cd.tab hP2) hf fun c' h' tk hx hge hlt hco' _ htab' _ => ?_
    obtain ⟨o1, vs, f1, tf, fl, tg, inF, tx, tt, op, _, _, _, _, _, _, _, _, _, htr, _⟩ := hco'
    exact cont _ h' tk _ hx (Nat.le_trans hge (Nat.le_of_lt hlt)) htab'.2 ⟨_, rfl⟩ htr
  | some cv =>
    refine wpAny_genexprCode_hit hcode (cd.code hP2 ht) hf ?_
    exact cont cv (s1.heap.push o) s1.toks ps (Heap.ExtBut.refl _ _) (Nat.le_refl _) hP2 ⟨#[], by simp⟩ ht
end
end DL

namespace DL
open PySem PySem.Spec PyProof.Rows L2 GxR
/-! ## quiet elements by data -/
def QD (X : QX) (sc : Scope) (nms : List Str) (k : Nat) (e : Expr) (f : List D → Option D) : Prop :=
  ∀ H ρ vs ds d, DReps X.K H ρ vs ds → f ds = some d → ∃ x, DRep X.K H ρ x d ∧ ∀ env, env.scope = sc → QE X H env nms vs k e x
def QDs (X : QX) (sc : Scope) (nms : List Str) (k : Nat) (es : List Expr) (f : List D → Option (List D)) : Prop :=
  ∀ H ρ vs ds es', DReps X.K H ρ vs ds → f ds = some es' → ∃ xs, DReps X.K H ρ xs es' ∧ ∀ env, env.scope = sc → QA X H env nms vs k es xs
section
variable {X : QX} {sc : Scope} {nms : List Str} {k : Nat} {pos : Pos}
theorem qd_name (i : Nat) {x : Str} (hx : nms[i]? = some x) (hd : (x == ("__debug__" : Str)) = false := by decide) (hcd : (x == ("__classdict__" : Str)) = false := by decide) : QD X sc nms k (.Name x pos) (fun ds => ds[i]?) := fun H ρ vs ds d r e => by
  obtain ⟨v, h1, h2⟩ := r.get e
  exact ⟨v, h2, fun _ _ => qe_name hx h1 hd hcd⟩
theorem qd_int {i : Int} {j : Nat} : QD X sc nms k (.Constant (.int i) j pos) (fun _ => some (.int i)) := fun H ρ vs ds d r e => by cases e; exact ⟨_, .int i, fun _ _ => qe_int⟩
theorem qd_str {i : Str} {j : Nat} : QD X sc nms k (.Constant (.str i) j pos) (fun _ => some (.str i)) := fun H ρ vs ds d r e => by cases e; exact ⟨_, .str i, fun _ _ => qe_str⟩
def qI2 {α : Type} (g : Int → Int → Option α) (fa fb : List D → Option D) (ds : List D) : Option α := match fa ds, fb ds with
  | some (.int i), some (.int j) => g i j
  | _, _ => none
theorem qI2_inv {α : Type} {g : Int → Int → Option α} {fa fb : List D → Option D} {ds : List D} {d : α} (h : qI2 g fa fb ds = some d) : ∃ i j, fa ds = some (.int i) ∧ fb ds = some (.int j) ∧ g i j = some d := by
  unfold qI2 at h
  split at h
  · rename_i i j h1 h2; exact ⟨i, j, h1, h2, h⟩
  · cases h
abbrev CmpQ (X : QX) (op : CmpOp) (p : Int → Int → Bool) : Prop := ∀ (i j : Int) (A : Around) (E : Value → Shared → Prop) (s : Shared) (t u : Tok) (Q : Value → Shared → Prop), Q (.bool (p i j)) s → wpAny (model X.prog X.w) A (compareOp op (.int i t) (.int j u)) Q E s
theorem cq_lt : CmpQ X .Lt fun i j => decide (i < j) := fun i j A E s t u Q q => PySem.P.lt_int q
theorem cq_le : CmpQ X .LtE fun i j => decide (i ≤ j) := fun i j A E s t u Q q => PySem.P.le_int q
theorem cq_gt : CmpQ X .Gt fun i j => decide (i > j) := fun i j A E s t u Q q => PySem.P.gt_int q
theorem cq_ge : CmpQ X .GtE fun i j => decide (i ≥ j) := fun i j A E s t u Q q => PySem.P.ge_int q
theorem qd_cmp {a b : Expr} {op : CmpOp} {p : Int → Int → Bool} {fa fb : List D → Option D} (hp : CmpQ X op p) (ha : QD X sc nms k a fa) (hb : QD X sc nms k b fb) (hm : behindInMarks op b = false := by with_unfolding_all rfl) : QD X sc nms k (.Compare a [op] [b] pos) (qI2 (fun i j => some (.bl (p i j))) fa fb) :=
  fun H ρ vs ds d r e => by
    obtain ⟨i, j, h1, h2, h3⟩ := qI2_inv e
    cases h3
    obtain ⟨x, rx, hx⟩ := ha H ρ vs ds _ r h1
    obtain ⟨y, ry, hy⟩ := hb H ρ vs ds _ r h2
    cases rx; cases ry
    exact ⟨_, .bl _, fun env he => qe_cmp (hx env he) (hy env he) (hp i j) hm⟩
def qI3 (p p' : Int → Int → Bool) (fa fb fc : List D → Option D) (ds : List D) : Option D := match fa ds, fb ds, fc ds with
  | some (.int i), some (.int j), some (.int l) => some (.bl (p i j && p' j l))
  | _, _, _ => none
theorem qI3_inv {p p' : Int → Int → Bool} {fa fb fc : List D → Option D} {ds : List D} {d : D} (h : qI3 p p' fa fb fc ds = some d) : ∃ i j l, fa ds = some (.int i) ∧ fb ds = some (.int j) ∧ fc ds = some (.int l) ∧ d = .bl (p i j && p' j l) := by
  unfold qI3 at h
  split at h
  · rename_i i j l h1 h2 h3; cases h; exact ⟨i, j, l, h1, h2, h3, rfl⟩
  · cases h
theorem qd_chain {a b c : Expr} {op op' : CmpOp} {p p' : Int → Int → Bool} {fa fb fc : List D → Option D} (hp : CmpQ X op p) (hp' : CmpQ X op' p') (ha : QD X sc nms k a fa) (hb : QD X sc nms k b fb) (hc : QD X sc nms k c fc) (hm : lastMarks [op, op'] [b, c] = false := by with_unfolding_all rfl) :
    QD X sc nms k (.Compare a [op, op'] [b, c] pos) (qI3 p p' fa fb fc) := fun H ρ vs ds d r e => by
  obtain ⟨i, j, l, h1, h2, h3, rfl⟩ := qI3_inv e
  obtain ⟨x, rx, hx⟩ := ha H ρ vs ds _ r h1
  obtain ⟨y, ry, hy⟩ := hb H ρ vs ds _ r h2
  obtain ⟨z, rz, hz⟩ := hc H ρ vs ds _ r h3
  cases rx; cases ry; cases rz
  exact ⟨_, .bl _, fun env he => qe_chain (hx env he) (hy env he) (hz env he) (hp i j) (hp' j l) hm⟩
theorem qd_one {a : Expr} {op} {fa : List D → Option D} (ha : QD X sc nms k a fa) : QD X sc nms k (.BoolOp op [a] pos) fa := fun H ρ vs ds d r e => by
  obtain ⟨x, rx, hx⟩ := ha H ρ vs ds _ r e
  exact ⟨x, rx, fun env he => qe_one (hx env he)⟩
def qAnd (fa fb : List D → Option D) (ds : List D) : Option D := match fa ds with
  | some (.bl false) => some (.bl false)
  | some (.bl true) => match fb ds with
    | some (.bl r) => some (.bl r)
    | _ => none
  | _ => none
theorem qd_and {a b : Expr} {rest : List Expr} {fa fb : List D → Option D} (ha : QD X sc nms k a fa) (hb : QD X sc nms k (.BoolOp .And (b :: rest) pos) fb) : QD X sc nms k (.BoolOp .And (a :: b :: rest) pos) (qAnd fa fb) := fun H ρ vs ds d r e => by
  unfold qAnd at e
  split at e
  · rename_i h1
    cases e
    obtain ⟨x, rx, hx⟩ := ha H ρ vs ds _ r h1
    cases rx
    exact ⟨_, .bl false, fun env he => qe_and (r' := false) (hx env he) (fun z => by cases z)⟩
  · rename_i h1
    split at e
    · rename_i r' h2
      cases e
      obtain ⟨x, rx, hx⟩ := ha H ρ vs ds _ r h1
      obtain ⟨y, ry, hy⟩ := hb H ρ vs ds _ r h2
      cases rx; cases ry
      exact ⟨_, .bl _, fun env he => qe_and (r := true) (hx env he) (fun _ => hy env he)⟩
    · cases e
  · cases e
def qNot (fa : List D → Option D) (ds : List D) : Option D := match fa ds with
  | some (.bl r) => some (.bl (!r))
  | _ => none
theorem qd_not {a : Expr} {fa : List D → Option D} (ha : QD X sc nms k a fa) : QD X sc nms k (.UnaryOp .Not a pos) (qNot fa) := fun H ρ vs ds d r e => by
  unfold qNot at e
  split at e
  · rename_i b h1
    cases e
    obtain ⟨x, rx, hx⟩ := ha H ρ vs ds _ r h1
    cases rx
    exact ⟨_, .bl _, fun env he => qe_not (hx env he)⟩
  · cases e
instance (i j : Int) : Decidable (CMulW i j) := by unfold CMulW; infer_instance
theorem qd_mul {a b : Expr} {fa fb : List D → Option D} (ha : QD X sc nms k a fa) (hb : QD X sc nms k b fb) : QD X sc nms k (.BinOp a .Mult b pos) (qI2 (fun i j => if CMulW i j then some (.int (i * j)) else none) fa fb) := fun H ρ vs ds d r e => by
  obtain ⟨i, j, h1, h2, h3⟩ := qI2_inv e
  by_cases hc : CMulW i j
  · rw [if_pos hc] at h3
    cases h3
    obtain ⟨x, rx, hx⟩ := ha H ρ vs ds _ r h1
    obtain ⟨y, ry, hy⟩ := hb H ρ vs ds _ r h2
    cases rx; cases ry
    exact ⟨_, .int _, fun env he => qe_mul (hx env he) (hy env he) hc.ok⟩
  · rw [if_neg hc] at h3; cases h3
/-- the type's name of a value that is no living object -/
def tyF : D → Option String
  | .non => some "NoneType" | .bl _ => some "bool" | .int _ => some "int" | .str _ => some "str"
  | .lst _ => some "list" | .tup _ => some "tuple" | .dic _ _ => some "dict" | .wtup _ => none
  | .mref _ => none
theorem tyF_q {K : PySem.W.Frag} {H : Hp} {ρ : Rho} {v : V} {d : D} {T : String} (r : DRep K H ρ v d) (e : tyF d = some T) : TyQ K H v T := by
  cases d with
  | non => cases r; cases e; rfl
  | bl b => cases r; cases e; rfl
  | int i => cases r; cases e; rfl
  | str x => cases r; cases e; rfl
  | lst ds => cases r with | lst i rs => cases e; exact .inl ⟨rfl, _, i.1⟩
  | tup ds =>
    cases r with
    | tup i rs =>
      cases e
      rcases i with ⟨i, _⟩ | ⟨o, its, n, h1, h2, _⟩
      · exact .inr (.inl ⟨rfl, .inl ⟨_, i.rd⟩⟩)
      · exact .inr (.inl ⟨rfl, .inr ⟨o, h1, h2⟩⟩)
  | dic ks ds => cases r with | dic h n l rs => cases e; exact .inr (.inr ⟨rfl, _, h⟩)
  | wtup ds => cases e
  | mref h => cases e
def qIsi (T : String) (fa : List D → Option D) (ds : List D) : Option D := (fa ds).bind fun d => (tyF d).bind fun t => (kitB t T).map .bl
theorem qd_isi {x : Str} {e : Expr} {f : List D → Option D} {T : String} {p p2 : Pos} (hm : X.mg "isinstance" = none) (hmT : X.mg x = none) (hvT : bootBuiltins x = some (.type T)) (he : QD X sc nms k e f)
    (hg : sc.names.lookup ("isinstance" : Str) = some .globalImplicit) (hgT : sc.names.lookup x = some .globalImplicit)
    (hn : x ≠ "__name__" := by decide) (hd : (x == ("__debug__" : Str)) = false := by decide)
    (hs : ∀ env : Env, starEach [e, .Name x p2] env = (false, eval e env) :: starEach [.Name x p2] env := by intro _; rfl) (hs2 : ∀ env : Env, starEach [.Name x p2] env = (false, eval (.Name x p2) env) :: starEach [] env := by intro _; rfl) (hpl : ∀ env : Env, (backTo pos (starEach [.Name x p2] env)).any (·.1) = false := by intro _; rfl) :
    QD X sc nms k (.Call (.Name "isinstance" p) [e, .Name x p2] [] pos) (qIsi T f) := fun H ρ vs ds d r h => by
  unfold qIsi at h
  cases e1 : f ds with
  | none => rw [e1] at h; cases h
  | some d0 =>
    rw [e1] at h
    have h : (tyF d0).bind (fun t => (kitB t T).map D.bl) = some d := h
    cases e2 : tyF d0 with
    | none => rw [e2] at h; cases h
    | some t =>
      rw [e2] at h
      have h : (kitB t T).map D.bl = some d := h
      cases e3 : kitB t T with
      | none => rw [e3] at h; cases h
      | some b =>
        rw [e3] at h
        cases h
        obtain ⟨y, ry, hy⟩ := he H ρ vs ds _ r e1
        exact ⟨_, .bl b, fun env hE => by subst hE; exact qe_isi hg hm hgT hmT hvT (hy env rfl) (tyF_q ry e2) e3 hn hd (hs env) (hs2 env) (hpl env)⟩
def qLen (fa : List D → Option D) (ds : List D) : Option D := match fa ds with
  | some (.str x) => if x.length ≤ sizeLine then some (.int x.length) else none
  | _ => none
theorem qd_len {e : Expr} {f : List D → Option D} {p : Pos} (hm : X.mg "len" = none) (he : QD X sc nms k e f) (hg : sc.names.lookup ("len" : Str) = some .globalImplicit)
    (hs : ∀ env : Env, starEach [e] env = (false, eval e env) :: starEach [] env := by intro _; rfl) (hpl : ∀ env : Env, (backTo pos (starEach [] env)).any (·.1) = false := by intro _; rfl) :
    QD X sc nms k (.Call (.Name "len" p) [e] [] pos) (qLen f) := fun H ρ vs ds d r h => by
  unfold qLen at h
  split at h
  · rename_i x e1
    by_cases hl : x.length ≤ sizeLine
    · rw [if_pos hl] at h
      cases h
      obtain ⟨y, ry, hy⟩ := he H ρ vs ds _ r e1
      cases ry
      exact ⟨_, .int _, fun env hE => by subst hE; exact qe_lenS hg hm (hy env rfl) hl (hs env) (hpl env)⟩
    · rw [if_neg hl] at h; cases h
  · cases h
def qInK (ys : List Str) (fa : List D → Option D) (ds : List D) : Option D := match fa ds with
  | some (.str y) => some (.bl (ys.any fun z => z == y))
  | _ => none
theorem qd_inK {a : Expr} {x : Str} {p : Pos} {c : Addr} {ys : List Str} {f : List D → Option D} (ha : QD X sc nms k a f) (hm : X.mg x = some (.ref c)) (hc : KTup X.K c (ys.map V.str)) (hg : sc.names.lookup x = some .globalImplicit) (hd : (x == ("__debug__" : Str)) = false := by decide)
    (hmk : behindInMarks .In (.Name x p) = false := by with_unfolding_all rfl) : QD X sc nms k (.Compare a [.In] [.Name x p] pos) (qInK ys f) := fun H ρ vs ds d r h => by
  unfold qInK at h
  split at h
  · rename_i y e1
    cases h
    obtain ⟨z, rz, hz⟩ := ha H ρ vs ds _ r e1
    cases rz
    exact ⟨_, .bl _, fun env hE => by subst hE; exact qe_inK (hz env rfl) (qe_glob hg hm rfl hd) hc hmk⟩
  · cases h
theorem qds_nil : QDs X sc nms k [] (fun _ => some []) := fun H ρ vs ds es r h => by cases h; exact ⟨[], .nil, fun _ _ => qa_nil⟩
def qCons (f : List D → Option D) (g : List D → Option (List D)) (ds : List D) : Option (List D) := (f ds).bind fun d => (g ds).map fun es => d :: es
theorem qds_cons {e : Expr} {es : List Expr} {f : List D → Option D} {g : List D → Option (List D)} (he : QD X sc nms k e f) (hr : QDs X sc nms k es g) (hs : ∀ env : Env, starEach (e :: es) env = (false, eval e env) :: starEach es env := by intro _; rfl) : QDs X sc nms k (e :: es) (qCons f g) := fun H ρ vs ds es' r h => by
  unfold qCons at h
  cases e1 : f ds with
  | none => rw [e1] at h; cases h
  | some d =>
    rw [e1] at h
    have h : (g ds).map (fun es => d :: es) = some es' := h
    cases e2 : g ds with
    | none => rw [e2] at h; cases h
    | some es2 =>
      rw [e2] at h
      cases h
      obtain ⟨x, rx, hx⟩ := he H ρ vs ds _ r e1
      obtain ⟨xs, rxs, hxs⟩ := hr H ρ vs ds _ r e2
      exact ⟨x :: xs, .cons rx rxs, fun env hE => qa_cons (hx env hE) (hxs env hE) (hs env)⟩
def qCall (n : Nat) (g : List D → Option (List D)) (q : List D → Option D) (ds : List D) : Option D := (g ds).bind fun as => if as.length = n then q as else none
theorem qd_call {x : Str} {e : Expr} {es : List Expr} {p : Pos} {ps : List Str} {e0 : Expr} {sc' : Scope} {f : Addr} {fd : FuncData} {g : List D → Option (List D)} {q : List D → Option D} (F : FnQ X ps e0 sc' f fd) (hb : QD X sc' ps k e0 q) (hm : X.mg x = some (.ref f)) (ha : QDs X sc nms k (e :: es) g)
    (hg : sc.names.lookup x = some .globalImplicit) (hdb : (x == ("__debug__" : Str)) = false := by decide) (he : ∀ env : Env, starEach (e :: es) env = (false, eval e env) :: starEach es env := by intro _; rfl) (hpl : ∀ env : Env, (backTo pos (starEach es env)).any (·.1) = false := by intro _; rfl) :
    QD X sc nms (k + 1) (.Call (.Name x p) (e :: es) [] pos) (qCall ps.length g q) := fun H ρ vs ds d r h => by
  unfold qCall at h
  cases e1 : g ds with
  | none => rw [e1] at h; cases h
  | some as =>
    rw [e1] at h
    have h : (if as.length = ps.length then q as else none) = some d := h
    by_cases hl : as.length = ps.length
    · rw [if_pos hl] at h
      obtain ⟨ws, rw', hw⟩ := ha H ρ vs ds _ r e1
      obtain ⟨y, ry, hy⟩ := hb H ρ ws as d rw' h
      exact ⟨y, ry, fun env hE => by subst hE; exact qe_call F hg hm (hw env rfl) (by rw [rw'.length, hl]) (fun env' hE' => hy env' hE') hdb (he env) (hpl env)⟩
    · rw [if_neg hl] at h; cases h
theorem QD.mono {j : Nat} {e : Expr} {f : List D → Option D} (h : QD X sc nms j e f) (hk : j ≤ k) : QD X sc nms k e f := fun H ρ vs ds d r e' => by
  obtain ⟨x, rx, hx⟩ := h H ρ vs ds d r e'
  exact ⟨x, rx, fun env hE => (hx env hE).mono hk⟩
end
end DL

namespace DL
open PySem PySem.Spec PyProof.Rows L2 GxR
/-! ## all(.. for x in e) -/
theorem noP_keep {ρ : Rho} {H : Hp} {P : Addr} {ps : Array Value} (h : H P = some (.tbl ps)) : ∀ b o, H b = some o → NoTbl o → noP H P b = some o := fun b o e t => by
  unfold noP
  rw [if_neg (fun z => by rw [z, h] at e; cases e; exact t)]
  exact e
mutual
theorem DRep.noP {K : PySem.W.Frag} {H : Hp} {ρ : Rho} {P : Addr} {ps : Array Value} (h : H P = some (.tbl ps)) : ∀ (d : D) (v : V), DRep K H ρ v d → DRep K (noP H P) ρ v d
  | .non, _, r => by cases r; exact .non
  | .bl b, _, r => by cases r; exact .bl b
  | .int i, _, r => by cases r; exact .int i
  | .str x, _, r => by cases r; exact .str x
  | .lst ds, _, r => by cases r with | lst i rs => exact .lst ⟨i.1.elim (fun z => .inl (noP_keep (ρ := ρ) h _ _ z trivial)) (fun ⟨o, z⟩ => .inr ⟨o, noP_keep (ρ := ρ) h _ _ z trivial⟩), i.2⟩ (DReps.noP h ds _ rs)
  | .tup ds, _, r => by cases r with | tup i rs => exact .tup (i.elim (fun i => .inl ⟨(let ⟨o, z, d⟩ := i.1; ⟨o, noP_keep (ρ := ρ) h _ _ z trivial, d⟩), i.2⟩) .inr) (DReps.noP h ds _ rs)
  | .wtup ds, _, r => by cases r with | wtup i rs => exact .wtup ⟨i.1.elim (fun z => .inl (noP_keep (ρ := ρ) h _ _ z trivial)) (fun ⟨o, z⟩ => .inr ⟨o, noP_keep (ρ := ρ) h _ _ z trivial⟩), i.2⟩ (DReps.noP h ds _ rs)
  | .mref n, _, r => by cases r with | mref h1 h2 => exact .mref h1 h2
  | .dic ks ds, _, r => by cases r with | dic i n l rs => exact .dic (noP_keep (ρ := ρ) h _ _ i trivial) n l (DReps.noP h ds _ rs)
theorem DReps.noP {K : PySem.W.Frag} {H : Hp} {ρ : Rho} {P : Addr} {ps : Array Value} (h : H P = some (.tbl ps)) : ∀ (ds : List D) (vs : List V), DReps K H ρ vs ds → DReps K (noP H P) ρ vs ds
  | [], _, r => by cases r; exact .nil
  | d :: ds, _, r => by cases r with | cons a b => exact .cons (DRep.noP h d _ a) (DReps.noP h ds _ b)
end
/-- the table at P has grown -/
theorem tab_step {G : Gx} {H : Hp} {ρ : Rho} {μ : Mu} {P : Addr} {ps ps' : Array Value} (m : MuRep G H ρ μ) (h : H P = some (.tbl ps)) (ht : TriplesOk ps'.toList) : Step G ρ H ρ (upd H P (.tbl ps')) μ := by
  have ne : ∀ b o, H b = some o → NoTbl o → b ≠ P := fun b o e t z => by rw [z, h] at e; cases e; exact t
  have kk : Keep ρ H (upd H P (.tbl ps')) := ⟨fun b o e _ t => by rw [upd_ne (ne b o e t)]; exact e, fun b o e => by
    by_cases hb : b = P
    · exact ⟨_, by rw [hb]; exact upd_same⟩
    · exact ⟨o, by rw [upd_ne hb]; exact e⟩⟩
  refine ⟨.refl _ _, kk, m.len, fun i mo e => ?_, m.dead, m.inj, fun a ha => ⟨let ⟨o, e⟩ := (m.res a ha).1; kk.dom a o e, (m.res a ha).2⟩, fun Q hQ => ?_⟩
  · obtain ⟨a, e1, e2⟩ := m.at_ i mo e
    refine ⟨a, e1, ?_⟩
    cases mo with
    | lst ds => obtain ⟨vs, h1, h2⟩ := e2; exact ⟨vs, by rw [upd_ne (ne _ _ h1 trivial)]; exact h1, DReps.step (.refl _ _) kk ds vs h2⟩
    | ins c fs => obtain ⟨C, dx, vs, h0, h1, h2, h3⟩ := e2; exact ⟨C, dx, vs, h0, by rw [upd_ne (ne _ _ h1 trivial)]; exact h1, h2, DReps.step (.refl _ _) kk _ vs h3⟩
    | dic ks ds => obtain ⟨vs, h1, h2, h3⟩ := e2; exact ⟨vs, by rw [upd_ne (ne _ _ h1 trivial)]; exact h1, h2, DReps.step (.refl _ _) kk ds vs h3⟩
    | dit ks ds => obtain ⟨vs, h1, h2, h3⟩ := e2; exact ⟨vs, by rw [upd_ne (ne _ _ h1 trivial)]; exact h1, h2, DReps.step (.refl _ _) kk ds vs h3⟩
  · by_cases hb : Q = P
    · exact ⟨ps', by rw [hb]; exact upd_same, ht⟩
    · obtain ⟨qs, h1, h2⟩ := m.tb Q hQ
      exact ⟨qs, by rw [upd_ne hb]; exact h1, h2⟩
/-- the captured names' values -/
def capsD (sl : Sl) : List Nat → Option (List D)
  | [] => some []
  | j :: js => (sl[j]?.bind id).bind fun d => (capsD sl js).map fun ds => d :: ds
def eachQ (q : List D → Option D) (cds : List D) : List D → Option (List D)
  | [] => some []
  | w :: ws => (q (w :: cds)).bind fun y => (eachQ q cds ws).map fun ys => y :: ys
theorem eachQ_len {q : List D → Option D} {cds : List D} : ∀ {ws ys : List D}, eachQ q cds ws = some ys → ys.length = ws.length
  | [], _, h => by cases h; rfl
  | w :: ws, ys, h => by
    unfold eachQ at h
    cases e1 : q (w :: cds) with
    | none => rw [e1] at h; cases h
    | some y =>
      rw [e1] at h
      have h : (eachQ q cds ws).map (fun ys => y :: ys) = some ys := h
      cases e2 : eachQ q cds ws with
      | none => rw [e2] at h; cases h
      | some zs => rw [e2] at h; cases h; rw [List.length_cons, List.length_cons, eachQ_len e2]
theorem eachQ_get {q : List D → Option D} {cds : List D} : ∀ {ws ys : List D} {i : Nat} {w : D}, eachQ q cds ws = some ys → ws[i]? = some w → ∃ y, ys[i]? = some y ∧ q (w :: cds) = some y
  | [], _, _, _, _, e => by simp at e
  | w0 :: ws, ys, i, w, h, e => by
    unfold eachQ at h
    cases e1 : q (w0 :: cds) with
    | none => rw [e1] at h; cases h
    | some y =>
      rw [e1] at h
      have h : (eachQ q cds ws).map (fun ys => y :: ys) = some ys := h
      cases e2 : eachQ q cds ws with
      | none => rw [e2] at h; cases h
      | some zs =>
        rw [e2] at h
        cases h
        cases i with
        | zero => simp at e; subst e; exact ⟨y, rfl, e1⟩
        | succ i =>
          obtain ⟨y', h1, h2⟩ := eachQ_get (i := i) e2 (by simpa using e)
          exact ⟨y', by simpa using h1, h2⟩
def blsD : List D → Option (List Bool)
  | [] => some []
  | .bl b :: ds => (blsD ds).map (b :: ·)
  | _ => none
theorem blsD_is : ∀ {ds : List D} {bs : List Bool}, blsD ds = some bs → ds = bs.map D.bl
  | [], _, h => by cases h; rfl
  | .bl b :: ds, bs, h => by
    unfold blsD at h
    cases e : blsD ds with
    | none => rw [e] at h; cases h
    | some cs => rw [e] at h; cases h; rw [blsD_is e]; rfl
  | .non :: _, _, h => by cases h
  | .int _ :: _, _, h => by cases h
  | .str _ :: _, _, h => by cases h
  | .lst _ :: _, _, h => by cases h
  | .tup _ :: _, _, h => by cases h
  | .mref _ :: _, _, h => by cases h
  | .dic _ _ :: _, _, h => by cases h
  | .wtup _ :: _, _, h => by cases h
def genD (fi : Sl → Cm D) (js : List Nat) (q : List D → Option D) (fin : List D → Option D) : Sl → Cm D := fun sl => (fi sl).bind fun d => Cm.look fun μ => (itemsD μ d).bind fun p => (capsD sl js).bind fun cds => (eachQ q cds p.1).bind fin
def eAll (fi : Sl → Cm D) (js : List Nat) (q : List D → Option D) : Sl → Cm D := genD fi js q fun ys => (blsD ys).map fun bs => .bl (bs.all id)
/-- the captured names, by slots -/
structure CapN (X : Cx) (scope : Scope) (caps : List Str) (js : List Nat) : Prop where
  len : caps.length = js.length
  at_ : ∀ (i : Nat) (y : Str) (j : Nat), caps[i]? = some y → js[i]? = some j → (y, NameKind.free) ∈ scope.names ∧ scope.names.lookup y = some .free ∧ X.env.kindOf y = some .cell ∧ X.N[j]? = some y
theorem capsD_get {K : PySem.W.Frag} {H : Hp} {ρ : Rho} {σ : L2.St} {sl : Sl} (hs : StRep K H ρ σ sl) : ∀ {js : List Nat} {cds : List D}, capsD sl js = some cds → ∃ cvs, DReps K H ρ cvs cds ∧ cvs.length = js.length ∧ ∀ (i : Nat) (j : Nat) v, js[i]? = some j → cvs[i]? = some v → σ[j]? = some (some v)
  | [], _, h => by cases h; exact ⟨[], .nil, rfl, fun i j v e => by simp at e⟩
  | j :: js, cds, h => by
    unfold capsD at h
    cases e1 : sl[j]?.bind id with
    | none => rw [e1] at h; cases h
    | some d =>
      rw [e1] at h
      have h : (capsD sl js).map (fun ds => d :: ds) = some cds := h
      cases e2 : capsD sl js with
      | none => rw [e2] at h; cases h
      | some ds =>
        rw [e2] at h
        cases h
        have e' : sl[j]? = some (some d) := by
          cases q : sl[j]? with
          | none => rw [q] at e1; cases e1
          | some o => rw [q] at e1; simp at e1; rw [e1]
        obtain ⟨v, h1, h2⟩ := hs.at_ j d e'
        obtain ⟨cvs, h3, h4, h5⟩ := capsD_get hs e2
        refine ⟨v :: cvs, .cons h2 h3, by rw [List.length_cons, List.length_cons, h4], fun i j' w e1 e2 => ?_⟩
        cases i with
        | zero => simp at e1 e2; subst e1 e2; exact h1
        | succ i => exact h5 i j' w (by simpa using e1) (by simpa using e2)
theorem DReps.getV {K : PySem.W.Frag} {H : Hp} {ρ : Rho} : ∀ {vs : List V} {ds : List D} {i : Nat} {v : V}, DReps K H ρ vs ds → vs[i]? = some v → ∃ d, ds[i]? = some d ∧ DRep K H ρ v d
  | _, _, _, _, .nil, e => by simp at e
  | _, _, 0, _, .cons a _, e => by simp at e; subst e; exact ⟨_, rfl, a⟩
  | _, _, i + 1, v, .cons _ r, e => by
    obtain ⟨d, h1, h2⟩ := DReps.getV (i := i) (v := v) r (by simpa using e)
    exact ⟨d, by simpa using h1, h2⟩
theorem pick_vals {α β : Type} (R : α → β → Prop) : ∀ {ws : List α} , (∀ (i : Nat) w, ws[i]? = some w → ∃ y, R w y) → ∃ ys : List β, ys.length = ws.length ∧ ∀ (i : Nat) w y, ws[i]? = some w → ys[i]? = some y → R w y
  | [], _ => ⟨[], rfl, fun i w y e => by simp at e⟩
  | w :: ws, h => by
    obtain ⟨y, hy⟩ := h 0 w rfl
    obtain ⟨ys, h1, h2⟩ := pick_vals R (ws := ws) fun i w' e => h (i + 1) w' (by simpa using e)
    refine ⟨y :: ys, by rw [List.length_cons, List.length_cons, h1], fun i w' y' e1 e2 => ?_⟩
    cases i with
    | zero => simp at e1 e2; subst e1 e2; exact hy
    | succ i => exact h2 i w' y' (by simpa using e1) (by simpa using e2)
section
variable {X : Cx} {tb : Addr → Prop} {W : WX} {pos : Pos}
/-- a generator's source and elements, from data -/
theorem gen_src {P : Addr} {scope : Scope} {x : Str} {caps : List Str} {js : List Nat} {elt : Expr} {fi : Sl → Cm D} {q : List D → Option D} {fin : List D → Option D} {σ : L2.St} {H : Hp} {Q : VK} (hP : tb P) (hcap : CapN X scope caps js) (hq : QD (qx X) scope (x :: caps) 3 elt q)
    (h : rd (gx X tb) (rV X.K) W (genD fi js q fin) σ H Q) :
    rd (gx X tb) (rV X.K) W fi σ H fun v H1 => ∃ (kk : SK) (vs cvs ys : List V), v = kk.v ∧ kk.stand X.K H1 vs ∧ TabG H1 P ∧ Caps X scope caps σ cvs ∧ ys.length = vs.length ∧ (∀ (i : Nat) w y, vs[i]? = some w → ys[i]? = some y → EltQ X H1 P scope [x] caps [w] cvs elt y) ∧
      (∃ ρ1 yds d, DReps X.K (noP H1 P) ρ1 ys yds ∧ fin yds = some d ∧ ∀ (ps' : Array Value) v', TriplesOk ps'.toList → DRep X.K (upd H1 P (.tbl ps')) ρ1 v' d → Q v' (upd H1 P (.tbl ps'))) := by
  obtain ⟨sl, ρ, hs, hc⟩ := h
  refine ⟨sl, ρ, hs, (Cfg.bind (Rq := rV X.K) hc).imp fun v H1 ⟨ρ1, d, r, x1, k1, c1⟩ => ?_⟩
  have hs1 : StRep X.K H1 ρ1 σ sl := hs.step x1 k1
  obtain ⟨μ, dd, hm, e, c1⟩ := c1.look
  cases e1 : itemsD μ d with
  | none => rw [e1] at e; cases e
  | some p =>
    rw [e1] at e
    obtain ⟨items, gs⟩ := p
    have e : (capsD sl js).bind (fun cds => (eachQ q cds items).bind fin) = some dd := e
    cases e2 : capsD sl js with
    | none => rw [e2] at e; cases e
    | some cds =>
      rw [e2] at e
      have e : (eachQ q cds items).bind fin = some dd := e
      cases e3 : eachQ q cds items with
      | none => rw [e3] at e; cases e
      | some yds =>
        rw [e3] at e
        have e : fin yds = some dd := e
        obtain ⟨kk, hk, sd⟩ := stand_of (G := gx X tb) r e1 hm
        obtain ⟨μ2, hm2, he⟩ := c1.okA
        obtain ⟨vs, h1, hvs⟩ := sd H1 ρ1 μ (.refl hm) (guard_of e1)
        obtain ⟨cvs, hcv, hcl, hca⟩ := capsD_get hs1 e2
        obtain ⟨ps, hT, htr⟩ := hm.tb P hP
        have hvs' := DReps.noP hT _ _ hvs
        have hcv' := DReps.noP hT _ _ hcv
        -- the values of the elements
        have each : ∀ (i : Nat) w, vs[i]? = some w → ∃ y : V, (∃ yd, yds[i]? = some yd ∧ DRep X.K (noP H1 P) ρ1 y yd) ∧ EltQ X H1 P scope [x] caps [w] cvs elt y := fun i w hw => by
          obtain ⟨wd, hwd, rw'⟩ := DReps.getV hvs' hw
          obtain ⟨yd, hyd, hqd⟩ := eachQ_get e3 hwd
          obtain ⟨y, ry, hy⟩ := hq (noP H1 P) ρ1 (w :: cvs) (wd :: cds) yd (.cons rw' hcv') hqd
          exact ⟨y, ⟨yd, hyd, ry⟩, fun env' hE => hy env' hE⟩
        have pick : ∃ ys : List V, ys.length = vs.length ∧ ∀ (i : Nat) y, ys[i]? = some y → ∃ w, vs[i]? = some w ∧ (∃ yd, yds[i]? = some yd ∧ DRep X.K (noP H1 P) ρ1 y yd) ∧ EltQ X H1 P scope [x] caps [w] cvs elt y := by
          have : ∀ n, n ≤ vs.length → ∃ ys : List V, ys.length = n ∧ ∀ (i : Nat) y, ys[i]? = some y → ∃ w, vs[i]? = some w ∧ (∃ yd, yds[i]? = some yd ∧ DRep X.K (noP H1 P) ρ1 y yd) ∧ EltQ X H1 P scope [x] caps [w] cvs elt y := by
            intro n
            induction n with
            | zero => exact fun _ => ⟨[], rfl, fun i y e => by simp at e⟩
            | succ n ih =>
              intro hn
              obtain ⟨ys, hl, ha⟩ := ih (Nat.le_of_succ_le hn)
              have hw : vs[n]? = some (vs[n]'hn) := List.getElem?_eq_getElem hn
              obtain ⟨y, h1, h2⟩ := each n _ hw
              refine ⟨ys ++ [y], by simp [hl], fun i y' e => ?_⟩
              by_cases hi : i < ys.length
              · rw [List.getElem?_append_left hi] at e; exact ha i y' e
              · rw [List.getElem?_append_right (Nat.le_of_not_lt hi)] at e
                have hi' : i - ys.length = 0 := by
                  have := (List.getElem?_eq_some_iff.mp e).1
                  simp at this; omega
                rw [hi'] at e
                simp at e
                subst e
                have : i = n := by omega
                subst this
                exact ⟨_, hw, h1, h2⟩
          exact this vs.length (Nat.le_refl _)
        obtain ⟨ys, hyl, hys⟩ := pick
        refine ⟨kk, vs, cvs, ys, hk.symm, h1, ⟨ps, hT, htr⟩, ⟨by rw [hcap.len, hcl], fun i y v' ea eb => ?_⟩, hyl, fun i w y ea eb => ?_, ρ1, yds, dd, ?_, e, fun ps' v' ht' rv' => ?_⟩
        · have hi : i < js.length := by rw [← hcap.len]; exact (List.getElem?_eq_some_iff.mp ea).1
          have ej : js[i]? = some js[i] := List.getElem?_eq_getElem hi
          obtain ⟨g1, g2, g3, g4⟩ := hcap.at_ i y _ ea ej
          exact ⟨g1, g2, g3, js[i], g4, hca i _ v' ej eb⟩
        · obtain ⟨w', hw', _, hE⟩ := hys i y eb
          rw [ea] at hw'; cases hw'
          exact hE
        · have hl : ys.length = yds.length := by rw [hyl, hvs.length, eachQ_len e3]
          clear each hyl
          have : ∀ (ys : List V) (yds : List D), ys.length = yds.length → (∀ (i : Nat) y, ys[i]? = some y → ∃ yd, yds[i]? = some yd ∧ DRep X.K (noP H1 P) ρ1 y yd) → DReps X.K (noP H1 P) ρ1 ys yds := by
            intro ys
            induction ys with
            | nil => intro yds hl _; cases yds with | nil => exact .nil | cons _ _ => simp at hl
            | cons y ys ih =>
              intro yds hl h
              cases yds with
              | nil => simp at hl
              | cons yd yds =>
                obtain ⟨yd', e1, e2⟩ := h 0 y rfl
                simp at e1; subst e1
                exact .cons e2 (ih yds (by simpa using hl) fun i y' e => by simpa using h (i + 1) y' (by simpa using e))
          exact this ys yds hl fun i y e => let ⟨w, _, h, _⟩ := hys i y e; h
        · exact he v' _ ρ1 (tab_step hm2 hT ht') rv'
theorem de_all {c P : Addr} {elt iter : Expr} {x : Str} {px p gpos : Pos} {scope : Scope} {caps : List Str} {js : List Nat} {k : Nat} {fi : Sl → Cm D} {q : List D → Option D}
    (hr : Room k X.A) (hg : Gl X "all") (hm : X.mg "all" = none) (hb : bootBuiltins "all" = some (.builtin "all")) (TB : TabB X.base X.mg c P) (hcode : X.env.code = .ref c) (hP : tb P) (S : GenN X.env scope [x]) (hcap : CapN X scope caps js)
    (hi : DE X tb W iter fi) (hq : QD (qx X) scope (x :: caps) 3 elt q)
    (hs : ∀ v, genFold iter X.env v = pure v := by intro _; rfl)
    (he : starEach [.GeneratorExp elt [⟨.Name x px, iter, [], 0⟩] scope gpos] X.env = (false, eval (.GeneratorExp elt [⟨.Name x px, iter, [], 0⟩] scope gpos) X.env) :: starEach [] X.env := by rfl) :
    DE X tb W (.Call (.Name "all" p) [.GeneratorExp elt [⟨.Name x px, iter, [], 0⟩] scope gpos] [] pos) (eAll fi js q) := by
  refine ⟨fun pins s σ H Q I h => ?_⟩
  refine wpAny_Call_Name_kw (ld_blt I hg hm hb ?_)
  refine PyProof.Rows.callWith_builtin1 ?_ he (by rfl)
  rw [he]
  show wpAny _ _ (spliced ((false, eval (.GeneratorExp elt [⟨.Name x px, iter, [], 0⟩] scope gpos) X.env) :: backTo pos (starEach [] X.env))) _ _ s
  refine Calls.spliced_cons (gen1 hr TB hcode S hi hs I (gen_src hP hcap hq h) fun ys H1 g s5 hR hG => ?_)
  obtain ⟨fp, wr, G, St, Wk, hst, hfp, hI⟩ := hG.ex
  refine Calls.spliced_nil ?_
  obtain ⟨ρ1, yds, d, hys, hfin, hQ⟩ := hR
  cases eb : blsD yds with
  | none => rw [eb] at hfin; cases hfin
  | some bs =>
    rw [eb] at hfin
    cases hfin
    have e2 := blsD_is eb
    subst e2
    have hl : ys.length = bs.length := by rw [hys.length]; simp
    have hbs : ∀ (i : Nat) y, ys[i]? = some y → ∃ b, bs[i]? = some b ∧ y = .bl b := fun i y e => by
      obtain ⟨yd, h1, h2⟩ := DReps.getV hys e
      rw [List.getElem?_map] at h1
      cases e3 : bs[i]? with
      | none => rw [e3] at h1; cases h1
      | some b => rw [e3] at h1; cases h1; cases h2; exact ⟨b, rfl, rfl⟩
    refine call_all_walkS (Wk.self 0 _ _ _ hst ⟨g, fp, wr, G, _, _, St, (fun i => bs.getD i false), rfl, Wk, hst, ?_, fun s' hmv => ?_⟩)
    · intro j y sj Qj Ej hy hQj
      obtain ⟨w, h1, h2⟩ := hy
      obtain ⟨b, h3, rfl⟩ := hbs j w h1
      cases h2
      have : bs.getD j false = b := by rw [List.getD_eq_getElem?_getD, h3]; rfl
      have hQj : Qj (bs.getD j false) sj := hQj
      rw [this] at hQj
      exact wpAny_truthy_bool hQj
    · obtain ⟨ps', ht', J⟩ := hI s' hmv
      refine ⟨.bl (bs.all id), _, J, ?_, hQ ps' _ ht' (.bl _)⟩
      have : (List.range ys.length).all (fun i => bs.getD i false) = bs.all id := by
        rw [hl, Bool.eq_iff_iff, List.all_eq_true, List.all_eq_true]
        constructor
        · intro h b hb
          obtain ⟨j, hj, e⟩ := List.getElem_of_mem hb
          have := h j (List.mem_range.mpr hj)
          rw [List.getD_eq_getElem?_getD, List.getElem?_eq_getElem hj, e] at this
          exact this
        · intro h j hj
          have hj' := List.mem_range.mp hj
          rw [List.getD_eq_getElem?_getD, List.getElem?_eq_getElem hj']
          exact h _ (List.getElem_mem hj')
      show Value.bool _ = Value.bool _
      rw [this]
end
end DL

namespace DL
open PySem PySem.Spec PyProof.Rows L2 GxR
/-- the walk of a sequence whose items are tuples -/
theorem walksU_of {P : Program} {w : World} {A' : Around} {it : Addr} {fp : List Addr} {n : Nat} {Pi : Nat → Value → Prop} {S : Nat → Heap → Prop} {Ts : Nat → Addr} {vals : Nat → Array Value} (W : Walks P w A' it fp [it] n Pi S) (hv : ∀ i v, i < n → Pi i v → v = .ref (Ts i)) (hne : ∀ i, i < n → Ts i ≠ it)
    (hcl : ∀ i h, S i h → ∃ o m vs, h.get? it = some o ∧ o.cls = .type m ∧ o.data = .fields vs ∧ ["enumerate", "zip", "dict_itemiterator", "dict_reverseitemiterator", "odict_iterator", "itertools.zip_longest", "itertools.pairwise"].contains m = false) :
    WalksU P w A' it (fp ++ (List.range n).map Ts) [it] n (fun j v => j < n ∧ v = vals j) (fun i h => S i h ∧ ∀ k, k < n → h.IsTuple (Ts k) (vals k)) (fun i T h => (i < n ∧ T = Ts i) ∧ S (i + 1) h ∧ ∀ k, k < n → h.IsTuple (Ts k) (vals k)) where
  sub := fun b hb => List.mem_append_left _ (W.sub b hb)
  frame := fun i h h' st hk => ⟨W.frame i h h' st.1 fun b hb => hk b (List.mem_append_left _ hb), fun k hk' => Heap.IsTuple.at (st.2 k hk') fun o e => hk _ (List.mem_append_right _ (List.mem_map.mpr ⟨k, List.mem_range.mpr hk', rfl⟩)) o e⟩
  item := fun i s Q E hi st hQ => W.item i s _ _ hi st.1 fun v h' tk hP hs hk => by
    rw [hv i v hi hP]
    have ht : ∀ k, k < n → h'.IsTuple (Ts k) (vals k) := fun k hk' => Heap.IsTuple.at (st.2 k hk') fun o e => hk _ o (fun z => hne k hk' (List.mem_singleton.mp z)) e
    exact hQ (Ts i) (vals i) h' tk ⟨hi, rfl⟩ (ht i hi) ⟨⟨hi, rfl⟩, hs, ht⟩ hk
  go := fun elts k pos i T s Q E hm hQ => by
    obtain ⟨o, m, vs, e, c, d, hn⟩ := hcl _ _ hm.2.1
    exact go_of e c d hn (hQ s.heap hm.2 fun b o _ e => e)
  apart := fun i T h hm hT => by
    rw [hm.1.2] at hT
    exact hne i hm.1.1 (List.mem_singleton.mp hT)
  done := fun s Q E st hQ => W.done s Q E st.1 hQ
  self := fun i s Q E st hQ => W.self i s Q E st.1 hQ
section
variable {X : Cx} {pins : List (Addr × Obj)} {σ : L2.St} {H : Hp} {s : Shared}
theorem gen2 {c P : Addr} {elt iter : Expr} {xa xb : Str} {pa pb pt gpos : Pos} {kt : Nat} {scope : Scope} {caps : List Str} {te : TE} {k : Nat} {Q' : Value → Shared → Prop} {R : List V → Hp → Prop}
    (hr : Room k X.A) (TB : TabB X.base X.mg c P) (hcode : X.env.code = .ref c) (S : GenN X.env scope [xa, xb]) (hab : xa ≠ xb) (hi : PE X iter te)
    (hs : ∀ v, genFold iter X.env v = pure v) (I : Inv X pins σ H s)
    (h : te σ H fun v H1 => ∃ (kk : SK) (vs cvs ys : List V), v = kk.v ∧ kk.stand X.K H1 vs ∧ TabG H1 P ∧ Caps X scope caps σ cvs ∧ ys.length = vs.length ∧ (∀ (i : Nat) w y, vs[i]? = some w → ys[i]? = some y → ∃ (T : Addr) (wa wb : V), w = .ref T ∧ SqT X.K H1 T [wa, wb] ∧ EltQ X H1 P scope [xa, xb] caps [wa, wb] cvs elt y) ∧ R ys H1)
    (hQ : ∀ ys H1 g s5, R ys H1 → ReadyG X pins σ H1 P ys.length (fun i u => ∃ y, ys[i]? = some y ∧ RelV y u) g s5 → Q' (.ref g) s5) :
    wpAny (model X.prog X.w) X.A (eval (.GeneratorExp elt [⟨.Tuple [.Name xa pa, .Name xb pb] kt pt, iter, [], 0⟩] scope gpos) X.env) Q' X.xe s := by
  refine wpAny_GeneratorExp_walksQTD hr.hd S.co (closure_ok S.free) S.cell S.dot (S.loc xa (by simp)) (S.loc xb (by simp)) hab S.kind (by have := hr.dp; omega) ?_ hs
  refine thn (hi.run pins s σ H _ I h) fun xv s1 ⟨v, H1, I1, r1, q1⟩ => ?_
  obtain ⟨kk, vs, cvs, ys, rfl, hq, ⟨ps, hP, ht⟩, hc, hyl, hel, q1⟩ := q1
  obtain ⟨o, t, Hh, n, Pi, St, B, W⟩ := wk_of I1 r1 hq
  obtain ⟨Ts, vals, hTs⟩ : ∃ (Ts : Nat → Addr) (vals : Nat → Array Value), ∀ i, i < n → vs[i]? = some (.ref (Ts i)) ∧ s1.heap.IsTuple (Ts i) (vals i) ∧ ∃ (wa wb : V) (va vb : Value), vals i = #[va, vb] ∧ RelV wa va ∧ RelV wb vb ∧ ∀ y, ys[i]? = some y → EltQ X H1 P scope [xa, xb] caps [wa, wb] cvs elt y := by
    have each : ∀ i, ∃ (p : Addr × Array Value), i < n → vs[i]? = some (.ref p.1) ∧ s1.heap.IsTuple p.1 p.2 ∧ ∃ (wa wb : V) (va vb : Value), p.2 = #[va, vb] ∧ RelV wa va ∧ RelV wb vb ∧ ∀ y, ys[i]? = some y → EltQ X H1 P scope [xa, xb] caps [wa, wb] cvs elt y := fun i => by
      by_cases hi : i < n
      · have hv : i < vs.length := by rw [← W.len]; exact hi
        have hw : vs[i]? = some vs[i] := List.getElem?_eq_getElem hv
        have hy : ys[i]? = some (ys[i]'(by omega)) := List.getElem?_eq_getElem (by omega)
        obtain ⟨T, wa, wb, ew, hT, hE⟩ := hel i _ _ hw hy
        obtain ⟨its, rv, pT, _⟩ := I1.tuple hT
        cases rv with
        | @cons _ va _ _ ra rr =>
          cases rr with
          | @cons _ vb _ _ rb rn =>
            cases rn
            refine ⟨(T, #[va, vb]), fun _ => ⟨by rw [hw, ew], pT, wa, wb, va, vb, rfl, ra, rb, fun y e => ?_⟩⟩
            rw [hy] at e; cases e; exact hE
      · exact ⟨(0, #[]), fun h => absurd h hi⟩
    exact ⟨fun i => (Classical.choose (each i)).1, fun i => (Classical.choose (each i)).2, fun i hi => Classical.choose_spec (each i) hi⟩
  have TsLt : ∀ i, i < n → Ts i < s1.heap.objs.size := fun i hi => by obtain ⟨_, ⟨o', e', _⟩, _⟩ := hTs i hi; exact Heap.lt_size e'
  refine B.b.iter _ _ _ _ s1 _ B.h0 ?_
  have hPs : s1.heap.get? P = some { cls := .none, data := .fields ps } := I1.hok P _ hP
  have hPlt : P < s1.heap.objs.size := Heap.lt_size hPs
  have hP2 : (s1.heap.push o).get? P = some { cls := .none, data := .fields ps } := Heap.get?_push_of_some _ hPs
  have cd : PySem.W.CodeHd (s1.heap.push o) c P := TB.code.keeps fun b u e => Heap.get?_push_of_some _ (I1.bk b u e)
  have lim2 : (s1.heap.push o).NoLimit := I1.nolimit.push o
  have adP : ∀ b ∈ kk.ad, b ≠ P := fun b hb z => by
    cases kk with
    | l a =>
      have : b = a := by simpa [SK.ad] using hb
      subst this
      obtain ⟨its, rv, p, _⟩ := I1.list hq
      obtain ⟨o', e', cl', _⟩ := p.isList
      rw [z, hPs] at e'; cases e'; cases cl'
    | t a =>
      have : b = a := by simpa [SK.ad] using hb
      subst this
      obtain ⟨its, rv, ⟨o', e', cl', _⟩, _⟩ := I1.tuple hq
      rw [z, hPs] at e'; cases e'; cases cl'
    | s x => simp [SK.ad] at hb
  have cont : ∀ (code : Value) (h3 : Heap) (tk : Nat) (ps' : Array Value), Heap.ExtBut P (s1.heap.push o) h3 → (s1.heap.push o).objs.size ≤ h3.objs.size → h3.get? P = some { cls := .none, data := .fields ps' } → (∃ more, ps' = ps ++ more) → TriplesOk ps'.toList →
      wpAny (model X.prog X.w) X.A (builtinsFor X.env.globals X.env.builtins) (fun bi s₄ =>
        ∃ Ia fp wr n₀ Pf St₀ Mid pz F, Value.ref s1.heap.objs.size = .ref Ia ∧ (∀ A' : Around, A'.handled = none → WalksU X.prog X.w A' Ia fp wr n₀ Pf St₀ Mid) ∧ (∀ i vals, Pf i vals → ∃ va vb, vals = #[va, vb]) ∧ St₀ 0 s₄.heap ∧ (∀ b ∈ fp, b < s₄.heap.objs.size) ∧ s₄.heap.NoLimit ∧ cStatics ∉ wr ∧
          (∀ href : Heap, (∀ b o, s₄.heap.get? b = some o → href.get? b = some o) →
            QuietGenTD X.prog X.w (genEnv scope (cloFrom X.env.cells scope.names []) s₄.heap.objs.size code bi X.env) xa xb [] elt (List.range s₄.heap.objs.size) wr Pf pz F href (X.A.depth + 1) (X.A.units + 8)) ∧
          (∀ a h₅ tk gs, gs.bare = true → s₄.heap.objs.size < a → h₅.objs.size = a + 1 → (∀ b o, s₄.heap.get? b = some o → h₅.get? b = some o) →
            WalksS X.prog X.w X.A.in4 a (a :: s₄.heap.objs.size :: List.range s₄.heap.objs.size) (s₄.heap.objs.size :: wr) (GenOnlyQ s₄.gens.size) (passing pz n₀ 0).length
              (fun j y => ∃ i, (passing pz n₀ 0)[j]? = some i ∧ F i y) (GenAt X.prog X.w X.A.in4 a s₄.gens.size s₄.heap.objs.size (List.range s₄.heap.objs.size) wr pz n₀ F) →
            GenAt X.prog X.w X.A.in4 a s₄.gens.size s₄.heap.objs.size (List.range s₄.heap.objs.size) wr pz n₀ F 0 { s₄ with gens := s₄.gens.push gs, toks := tk, heap := h₅ } →
            Q' (.ref a) { s₄ with gens := s₄.gens.push gs, toks := tk, heap := h₅ })) X.xe { s1 with heap := h3, toks := tk } := by
    intro code h3 tk ps' hx hsz hP3 hmore ht3
    obtain ⟨bm, ob, e1, e2, e3, e4, e5, e6, e7, e8⟩ := TB.bm
    have hcP : cStatics ≠ P := fun e => by
      obtain ⟨_, hns, _⟩ := I1.nolimit
      obtain ⟨o', es, ep, ho, hd, _⟩ := hns
      rw [e, hPs] at ho
      cases ho
      cases hd
    have hcl : cStatics < s1.heap.objs.size := let ⟨_, hns, _⟩ := I1.nolimit; hns.lt
    have sz2 : (s1.heap.push o).objs.size = s1.heap.objs.size + 1 := Heap.size_push ..
    have keep3 : ∀ b u, b ≠ P → s1.heap.get? b = some u → h3.get? b = some u := fun b u hb e => hx b u hb (Heap.get?_push_of_some _ e)
    refine wpAny_builtinsFor (m := X.mg) (by rw [I1.ok.glob]; exact ((I1.mod.glob.keeps I1.bk).push o).extBut hx TB.gP) e1 e2 (keep3 _ _ e4 (I1.bk _ _ e5)) e6 e7 e8 ?_
    have TsP : ∀ i, i < n → Ts i ≠ P := fun i hi z => by
      obtain ⟨_, ⟨o', e', c', _⟩, _⟩ := hTs i hi
      rw [z, hPs] at e'; cases e'; cases c'
    refine ⟨s1.heap.objs.size, (s1.heap.objs.size :: kk.ad) ++ (List.range n).map Ts, [s1.heap.objs.size], n, (fun j v => j < n ∧ v = vals j), _, _, (fun _ => true), (fun i u => ∃ y, ys[i]? = some y ∧ RelV y u), rfl, fun A' hA => walksU_of (W.wk A' hA) (fun i v hi hv => ?_) (fun i hi => Nat.ne_of_lt (TsLt i hi)) W.cls, ?_, ⟨?_, fun i hi => ?_⟩, ?_, lim2.extBut hx hcP, ?_, ?_, ?_⟩
    · obtain ⟨w, h1, h2⟩ := W.val i v hv
      rw [(hTs i hi).1] at h1
      cases h1
      exact h2
    · rintro i v ⟨hi, rfl⟩
      obtain ⟨_, _, wa, wb, va, vb, e, _⟩ := hTs i hi
      exact ⟨va, vb, e⟩
    · exact W.st0 _ (hx _ _ (Nat.ne_of_gt hPlt) (Heap.get?_push_size _ B.b.free)) fun b hb u e => keep3 b u (adP b hb) e
    · exact Heap.IsTuple.at (hTs i hi).2.1 fun o e => keep3 _ o (TsP i hi) e
    · intro b hb
      have low : ∀ b, b < s1.heap.objs.size → b < h3.objs.size := fun b this => Nat.lt_of_lt_of_le (Nat.lt_succ_of_lt this) (Nat.le_trans (Nat.le_of_eq sz2.symm) hsz)
      rcases List.mem_append.mp hb with hb | hb
      · rcases List.mem_cons.mp hb with z | z
        · rw [z]
          show s1.heap.objs.size < h3.objs.size
          omega
        · exact low b (B.lt b z)
      · obtain ⟨i, hi, rfl⟩ := List.mem_map.mp hb
        exact low _ (TsLt i (List.mem_range.mp hi))
    · intro z
      rcases List.mem_cons.mp z with z | z
      · exact Nat.ne_of_lt hcl z
      · cases z
    · intro href hhref
      refine ⟨fun A' E' i va vb s₂ m₂ hA hdp hup hPv hn hma hmb hk => ?_, fun A' E' i va vb s₂ m₂ hA hdp hup hPv hp hn hma hmb hk => ?_⟩
      · simp only [List.forIn_nil]
        exact wpAny_pure ⟨rfl, kRefl _⟩
      · obtain ⟨hi, hv⟩ := hPv
        obtain ⟨_, _, wa, wb, va', vb', e', ra, rb, hE⟩ := hTs i hi
        rw [e'] at hv
        have hv1 : va = va' := by have := congrArg (fun z : Array Value => z[0]?) hv; simpa using this
        have hv2 : vb = vb' := by have := congrArg (fun z : Array Value => z[1]?) hv; simpa using this
        subst hv1 hv2
        have hlt : i < ys.length := by rw [hyl, ← W.len]; exact hi
        have hy : ys[i]? = some ys[i] := List.getElem?_eq_getElem hlt
        have kp : ∀ b u, b ≠ P → b ≠ s1.heap.objs.size → s1.heap.get? b = some u → s₂.heap.get? b = some u := fun b u h1 h2 e =>
          hk b (List.mem_range.mpr (Heap.lt_size (keep3 b u h1 e))) (fun z => h2 (List.mem_singleton.mp z)) u (hhref b u (keep3 b u h1 e))
        have qs := qs_gen (N := s1.heap.objs.size) (C := h3.objs.size) (code := code) (xs := [xa, xb]) (ws := [wa, wb]) I1 hP (Nat.le_refl _) kp S.kind rfl hc rfl hn (fun j x' w' e1 e2 => by
          match j, e1, e2 with
          | 0, e1, e2 => cases e1; cases e2; exact ⟨S.loc _ (by simp), va, ra, hma⟩
          | 1, e1, e2 => cases e1; cases e2; exact ⟨S.loc _ (by simp), vb, rb, hmb⟩
          | j + 2, e1, e2 => simp at e1)
        exact wpAny_mono (hE _ hy _ rfl A' E' s₂ hA (by have := hr.dp; omega) qs) (fun u s3 ⟨r3, k3⟩ => ⟨⟨_, hy, r3⟩, k3⟩) fun _ _ e => e
    · intro g h5 tk5 gs hgb hag hsz5 hk5 W5 hat
      simp only [GxR.passing_true, List.length_range] at W5
      have hn' : n = ys.length := by rw [W.len, hyl]
      subst hn'
      refine hQ ys H1 g _ q1 ⟨g :: h3.objs.size :: List.range h3.objs.size, _, _, _, walksMono W5.in4_1 fun j u hu => ?_, hat, fun b hb => ?_, fun s' hm => ?_⟩
      · obtain ⟨i, hij, y, hy, r⟩ := hu
        obtain ⟨hj, ej⟩ := List.getElem?_eq_some_iff.mp hij
        rw [List.getElem_range] at ej
        subst ej
        exact ⟨y, hy, r⟩
      · show b < h5.objs.size
        rw [hsz5]
        have hag : h3.objs.size < g := hag
        rcases List.mem_cons.mp hb with z | z
        · rw [z]; exact Nat.lt_succ_self _
        · rcases List.mem_cons.mp z with z | z
          · rw [z]; exact Nat.lt_succ_of_lt hag
          · exact Nat.lt_succ_of_lt (Nat.lt_trans (List.mem_range.mp z) hag)
      · obtain ⟨more, em⟩ := hmore
        have nwr : ∀ b u, s1.heap.get? b = some u → b ∉ h3.objs.size :: [s1.heap.objs.size] := fun b u e hb => by
          have hl := Heap.lt_size e
          rcases List.mem_cons.mp hb with z | z
          · rw [z] at hl
            have h9 : (h3.objs.size : Nat) < s1.heap.objs.size := hl
            omega
          · rcases List.mem_cons.mp z with z | z
            · rw [z] at hl
              exact Nat.lt_irrefl _ hl
            · cases z
        have J := inv_tab (more := more) (h' := s'.heap) (g' := s'.gens) (d' := s'.drawn) (t' := s'.toks) I1 hP (fun b u hb e => hm.heap b u (nwr b u e) (hk5 b u (keep3 b u hb e)))
          (by rw [← em]; exact hm.heap P _ (nwr P _ hPs) (hk5 P _ hP3)) (AllBare.movedS (I1.bare.push hgb) hm)
        rw [sh_eta s1 s' hm.os] at J
        exact ⟨ps ++ more, by rw [← em]; exact ht3, J⟩
  refine ⟨lim2, ?_⟩
  cases hf : codeAmong gpos ps.toList with
  | none =>
    refine wpAny_genexprCodeX hcode (cd.code hP2 ht) (cd.tab hP2) hf fun c' h' tk hx hge hlt hco' _ htab' _ => ?_
    obtain ⟨o1, vs, f1, tf, fl, tg, inF, tx, tt, op, _, _, _, _, _, _, _, _, _, htr, _⟩ := hco'
    exact cont _ h' tk _ hx (Nat.le_trans hge (Nat.le_of_lt hlt)) htab'.2 ⟨_, rfl⟩ htr
  | some cv =>
    refine wpAny_genexprCode_hit hcode (cd.code hP2 ht) hf ?_
    exact cont cv (s1.heap.push o) s1.toks ps (Heap.ExtBut.refl _ _) (Nat.le_refl _) hP2 ⟨#[], by simp⟩ ht
end
end DL

namespace DL
open PySem PySem.Spec PyProof.Rows L2 GxR
/-! ## sum(.. for a, b in e) -/
def q2 (q : List D → Option D) : List D → Option D
  | .tup [a, b] :: cds => q (a :: b :: cds)
  | _ => none
theorem q2_inv {q : List D → Option D} {w : D} {cds : List D} {y : D} (h : q2 q (w :: cds) = some y) : ∃ a b, w = .tup [a, b] ∧ q (a :: b :: cds) = some y := by
  unfold q2 at h
  split at h
  · rename_i a b cds' e
    cases e
    exact ⟨a, b, rfl, h⟩
  · cases h
def eSum2 (fi : Sl → Cm D) (js : List Nat) (q : List D → Option D) : Sl → Cm D := genD fi js (q2 q) fun ys => (intsD ys).map fun ns => .int ns.sum
theorem intsD_is : ∀ {ds : List D} {bs : List Int}, intsD ds = some bs → ds = bs.map D.int
  | [], _, h => by cases h; rfl
  | .int b :: ds, bs, h => by
    unfold intsD at h
    cases e : intsD ds with
    | none => rw [e] at h; cases h
    | some cs => rw [e] at h; cases h; rw [intsD_is e]; rfl
  | .non :: _, _, h => by cases h
  | .bl _ :: _, _, h => by cases h
  | .str _ :: _, _, h => by cases h
  | .lst _ :: _, _, h => by cases h
  | .tup _ :: _, _, h => by cases h
  | .mref _ :: _, _, h => by cases h
  | .dic _ _ :: _, _, h => by cases h
  | .wtup _ :: _, _, h => by cases h
theorem preSum_take (bs : List Int) : ∀ n, n ≤ bs.length → preSum (fun i => bs.getD i 0) n = (bs.take n).sum
  | 0, _ => by simp [preSum]
  | n + 1, h => by
    have e : bs.take (n + 1) = bs.take n ++ [bs[n]'h] := by rw [List.take_succ, List.getElem?_eq_getElem h]; rfl
    rw [e, List.sum_append, ← preSum_take bs n (Nat.le_of_succ_le h)]
    show preSum (fun i => bs.getD i 0) n + bs.getD n 0 = _
    rw [List.getD_eq_getElem?_getD, List.getElem?_eq_getElem h]
    simp
theorem preSum_all (bs : List Int) : preSum (fun i => bs.getD i 0) bs.length = bs.sum := by
  rw [preSum_take bs bs.length (Nat.le_refl _), List.take_of_length_le (Nat.le_refl _)]
section
variable {X : Cx} {tb : Addr → Prop} {W : WX} {pos : Pos}
theorem gen_src2 {P : Addr} {scope : Scope} {xa xb : Str} {caps : List Str} {js : List Nat} {elt : Expr} {fi : Sl → Cm D} {q : List D → Option D} {fin : List D → Option D} {σ : L2.St} {H : Hp} {Q : VK} (hP : tb P) (hcap : CapN X scope caps js) (hq : QD (qx X) scope (xa :: xb :: caps) 3 elt q)
    (h : rd (gx X tb) (rV X.K) W (genD fi js (q2 q) fin) σ H Q) :
    rd (gx X tb) (rV X.K) W fi σ H fun v H1 => ∃ (kk : SK) (vs cvs ys : List V), v = kk.v ∧ kk.stand X.K H1 vs ∧ TabG H1 P ∧ Caps X scope caps σ cvs ∧ ys.length = vs.length ∧ (∀ (i : Nat) w y, vs[i]? = some w → ys[i]? = some y → ∃ (T : Addr) (wa wb : V), w = .ref T ∧ SqT X.K H1 T [wa, wb] ∧ EltQ X H1 P scope [xa, xb] caps [wa, wb] cvs elt y) ∧
      (∃ ρ1 yds d, DReps X.K (noP H1 P) ρ1 ys yds ∧ fin yds = some d ∧ ∀ (ps' : Array Value) v', TriplesOk ps'.toList → DRep X.K (upd H1 P (.tbl ps')) ρ1 v' d → Q v' (upd H1 P (.tbl ps'))) := by
  obtain ⟨sl, ρ, hs, hc⟩ := h
  refine ⟨sl, ρ, hs, (Cfg.bind (Rq := rV X.K) hc).imp fun v H1 ⟨ρ1, d, r, x1, k1, c1⟩ => ?_⟩
  have hs1 : StRep X.K H1 ρ1 σ sl := hs.step x1 k1
  obtain ⟨μ, dd, hm, e, c1⟩ := c1.look
  cases e1 : itemsD μ d with
  | none => rw [e1] at e; cases e
  | some p =>
    rw [e1] at e
    obtain ⟨items, gs⟩ := p
    have e : (capsD sl js).bind (fun cds => (eachQ (q2 q) cds items).bind fin) = some dd := e
    cases e2 : capsD sl js with
    | none => rw [e2] at e; cases e
    | some cds =>
      rw [e2] at e
      have e : (eachQ (q2 q) cds items).bind fin = some dd := e
      cases e3 : eachQ (q2 q) cds items with
      | none => rw [e3] at e; cases e
      | some yds =>
        rw [e3] at e
        have e : fin yds = some dd := e
        obtain ⟨kk, hk, sd⟩ := stand_of (G := gx X tb) r e1 hm
        obtain ⟨μ2, hm2, he⟩ := c1.okA
        obtain ⟨vs, h1, hvs⟩ := sd H1 ρ1 μ (.refl hm) (guard_of e1)
        obtain ⟨cvs, hcv, hcl, hca⟩ := capsD_get hs1 e2
        obtain ⟨ps, hT, htr⟩ := hm.tb P hP
        have hvs' := DReps.noP hT _ _ hvs
        have hcv' := DReps.noP hT _ _ hcv
        -- the values of the elements
        have each : ∀ (i : Nat) w, vs[i]? = some w → ∃ y : V, (∃ yd, yds[i]? = some yd ∧ DRep X.K (noP H1 P) ρ1 y yd) ∧ ∃ (T : Addr) (wa wb : V), w = .ref T ∧ SqT X.K H1 T [wa, wb] ∧ EltQ X H1 P scope [xa, xb] caps [wa, wb] cvs elt y := fun i w hw => by
          obtain ⟨wd, hwd, rw'⟩ := DReps.getV hvs' hw
          obtain ⟨yd, hyd, hqd⟩ := eachQ_get e3 hwd
          obtain ⟨da, db, rfl, hqd⟩ := q2_inv hqd
          obtain ⟨w0d, hw0, rw0⟩ := DReps.getV hvs hw
          rw [hwd] at hw0
          cases hw0
          cases rw0 with
          | @tup T ws _ it0 rs0 =>
            cases rs0 with
            | @cons wa _ _ _ ra rs1 =>
              cases rs1 with
              | @cons wb _ _ _ rb rs2 =>
                cases rs2
                obtain ⟨y, ry, hy⟩ := hq (noP H1 P) ρ1 (wa :: wb :: cvs) (da :: db :: cds) yd (.cons (DRep.noP hT _ _ ra) (.cons (DRep.noP hT _ _ rb) hcv')) hqd
                exact ⟨y, ⟨yd, hyd, ry⟩, T, wa, wb, rfl, it0.seq, fun env' hE => hy env' hE⟩
        have pick : ∃ ys : List V, ys.length = vs.length ∧ ∀ (i : Nat) y, ys[i]? = some y → ∃ w, vs[i]? = some w ∧ (∃ yd, yds[i]? = some yd ∧ DRep X.K (noP H1 P) ρ1 y yd) ∧ ∃ (T : Addr) (wa wb : V), w = .ref T ∧ SqT X.K H1 T [wa, wb] ∧ EltQ X H1 P scope [xa, xb] caps [wa, wb] cvs elt y := by
          have : ∀ n, n ≤ vs.length → ∃ ys : List V, ys.length = n ∧ ∀ (i : Nat) y, ys[i]? = some y → ∃ w, vs[i]? = some w ∧ (∃ yd, yds[i]? = some yd ∧ DRep X.K (noP H1 P) ρ1 y yd) ∧ ∃ (T : Addr) (wa wb : V), w = .ref T ∧ SqT X.K H1 T [wa, wb] ∧ EltQ X H1 P scope [xa, xb] caps [wa, wb] cvs elt y := by
            intro n
            induction n with
            | zero => exact fun _ => ⟨[], rfl, fun i y e => by simp at e⟩
            | succ n ih =>
              intro hn
              obtain ⟨ys, hl, ha⟩ := ih (Nat.le_of_succ_le hn)
              have hw : vs[n]? = some (vs[n]'hn) := List.getElem?_eq_getElem hn
              obtain ⟨y, h1, h2⟩ := each n _ hw
              refine ⟨ys ++ [y], by simp [hl], fun i y' e => ?_⟩
              by_cases hi : i < ys.length
              · rw [List.getElem?_append_left hi] at e; exact ha i y' e
              · rw [List.getElem?_append_right (Nat.le_of_not_lt hi)] at e
                have hi' : i - ys.length = 0 := by
                  have := (List.getElem?_eq_some_iff.mp e).1
                  simp at this; omega
                rw [hi'] at e
                simp at e
                subst e
                have : i = n := by omega
                subst this
                exact ⟨_, hw, h1, h2⟩
          exact this vs.length (Nat.le_refl _)
        obtain ⟨ys, hyl, hys⟩ := pick
        refine ⟨kk, vs, cvs, ys, hk.symm, h1, ⟨ps, hT, htr⟩, ⟨by rw [hcap.len, hcl], fun i y v' ea eb => ?_⟩, hyl, fun i w y ea eb => ?_, ρ1, yds, dd, ?_, e, fun ps' v' ht' rv' => ?_⟩
        · have hi : i < js.length := by rw [← hcap.len]; exact (List.getElem?_eq_some_iff.mp ea).1
          have ej : js[i]? = some js[i] := List.getElem?_eq_getElem hi
          obtain ⟨g1, g2, g3, g4⟩ := hcap.at_ i y _ ea ej
          exact ⟨g1, g2, g3, js[i], g4, hca i _ v' ej eb⟩
        · obtain ⟨w', hw', _, hE⟩ := hys i y eb
          rw [ea] at hw'; cases hw'
          exact hE
        · have hl : ys.length = yds.length := by rw [hyl, hvs.length, eachQ_len e3]
          clear each hyl
          have : ∀ (ys : List V) (yds : List D), ys.length = yds.length → (∀ (i : Nat) y, ys[i]? = some y → ∃ yd, yds[i]? = some yd ∧ DRep X.K (noP H1 P) ρ1 y yd) → DReps X.K (noP H1 P) ρ1 ys yds := by
            intro ys
            induction ys with
            | nil => intro yds hl _; cases yds with | nil => exact .nil | cons _ _ => simp at hl
            | cons y ys ih =>
              intro yds hl h
              cases yds with
              | nil => simp at hl
              | cons yd yds =>
                obtain ⟨yd', e1, e2⟩ := h 0 y rfl
                simp at e1; subst e1
                exact .cons e2 (ih yds (by simpa using hl) fun i y' e => by simpa using h (i + 1) y' (by simpa using e))
          exact this ys yds hl fun i y e => let ⟨w, _, h, _⟩ := hys i y e; h
        · exact he v' _ ρ1 (tab_step hm2 hT ht') rv'
theorem de_sum2 {c P : Addr} {elt iter : Expr} {xa xb : Str} {pa pb pt p gpos : Pos} {kt : Nat} {scope : Scope} {caps : List Str} {js : List Nat} {k : Nat} {fi : Sl → Cm D} {q : List D → Option D}
    (hr : Room k X.A) (hg : Gl X "sum") (hm : X.mg "sum" = none) (hb : bootBuiltins "sum" = some (.builtin "sum")) (TB : TabB X.base X.mg c P) (hcode : X.env.code = .ref c) (hP : tb P) (S : GenN X.env scope [xa, xb]) (hab : xa ≠ xb) (hcap : CapN X scope caps js)
    (hi : DE X tb W iter fi) (hq : QD (qx X) scope (xa :: xb :: caps) 3 elt q)
    (hs : ∀ v, genFold iter X.env v = pure v := by intro _; rfl)
    (he : starEach [.GeneratorExp elt [⟨.Tuple [.Name xa pa, .Name xb pb] kt pt, iter, [], 0⟩] scope gpos] X.env = (false, eval (.GeneratorExp elt [⟨.Tuple [.Name xa pa, .Name xb pb] kt pt, iter, [], 0⟩] scope gpos) X.env) :: starEach [] X.env := by rfl) :
    DE X tb W (.Call (.Name "sum" p) [.GeneratorExp elt [⟨.Tuple [.Name xa pa, .Name xb pb] kt pt, iter, [], 0⟩] scope gpos] [] pos) (eSum2 fi js q) := by
  refine ⟨fun pins s σ H Q I h => ?_⟩
  refine wpAny_Call_Name_kw (ld_blt I hg hm hb ?_)
  refine PyProof.Rows.callWith_builtin1 ?_ he (by rfl)
  rw [he]
  show wpAny _ _ (spliced ((false, eval (.GeneratorExp elt [⟨.Tuple [.Name xa pa, .Name xb pb] kt pt, iter, [], 0⟩] scope gpos) X.env) :: backTo pos (starEach [] X.env))) _ _ s
  refine Calls.spliced_cons (gen2 hr TB hcode S hab hi hs I (gen_src2 hP hcap hq h) fun ys H1 g s5 hR hG => ?_)
  obtain ⟨fp, wr, G, St, Wk, hst, hfp, hI⟩ := hG.ex
  refine Calls.spliced_nil ?_
  obtain ⟨ρ1, yds, d, hys, hfin, hQ⟩ := hR
  cases eb : intsD yds with
  | none => rw [eb] at hfin; cases hfin
  | some bs =>
    rw [eb] at hfin
    cases hfin
    have e2 := intsD_is eb
    subst e2
    have hl : ys.length = bs.length := by rw [hys.length]; simp
    have hbs : ∀ (i : Nat) y, ys[i]? = some y → ∃ b, bs[i]? = some b ∧ y = .int b := fun i y e => by
      obtain ⟨yd, h1, h2⟩ := DReps.getV hys e
      rw [List.getElem?_map] at h1
      cases e3 : bs[i]? with
      | none => rw [e3] at h1; cases h1
      | some b => rw [e3] at h1; cases h1; cases h2; exact ⟨b, rfl, rfl⟩
    refine call_sum_walkAnyS (Wk.self 0 _ _ _ hst ⟨g, fp, wr, G, _, _, St, (fun i => bs.getD i 0), rfl, Wk, hst, hfp, fun i v hv => ?_, fun s' t' hmv => ?_⟩)
    · obtain ⟨w, h1, h2⟩ := hv
      obtain ⟨b, h3, rfl⟩ := hbs i w h1
      have : bs.getD i 0 = b := by rw [List.getD_eq_getElem?_getD, h3]; rfl
      show ∃ t, v = Value.int (bs.getD i 0) t
      rw [this]
      exact h2
    · obtain ⟨ps', ht', J⟩ := hI s' hmv
      refine ⟨.int bs.sum, _, J, ⟨t', ?_⟩, hQ ps' _ ht' (.int _)⟩
      rw [hl, preSum_all]
end
end DL

namespace DL
open PySem PySem.Spec PyProof.Rows L2
/-! ## defs whose callers bear no guards (for repr) -/
abbrev NoG (A : Around) : Prop := A.guards = some []
structure FnG (P : Program) (w : World) (K : PySem.W.Frag) (mg : Str → Option Value) (base : Heap) (k : Nat) (f : Addr) (fd : FuncData) (ps : List Str) (sp : Sp) : Prop where
  len : ∀ vs H Q E, sp vs H Q E → vs.length = ps.length
  run : ∀ (A : Around) (outer : List Env) (s : Shared) (H : Hp) (args : Args) (us : List Value) (vs : List V) (Q : VK) (E : XK), Room k A → NoG A → Env0 P w K mg base A outer s H → BindsTo s fd args (ps.zip us) → Vals vs us → sp vs H Q E →
    codeAny (model P w) A (.call (.ref f) args) (CR (L2.CX P w) outer P w H s Q E) s
section
variable {P : Program} {w : World} {K : PySem.W.Frag} {mg : Str → Option Value} {base : Heap} {tb : Addr → Prop}
theorem FnG.imp {k : Nat} {f : Addr} {fd : FuncData} {ps : List Str} {sp sp' : Sp} (F : FnG P w K mg base k f fd ps sp) (h : ∀ vs H Q E, sp' vs H Q E → sp vs H Q E) : FnG P w K mg base k f fd ps sp' :=
  ⟨fun vs H Q E q => F.len vs H Q E (h _ _ _ _ q), fun A outer s H args us vs Q E hr hg he hb hv hs => F.run A outer s H args us vs Q E hr hg he hb hv (h _ _ _ _ hs)⟩
theorem FnG.mono {j k : Nat} {f : Addr} {fd : FuncData} {ps : List Str} {sp : Sp} (F : FnG P w K mg base j f fd ps sp) (h : j ≤ k) : FnG P w K mg base k f fd ps sp :=
  ⟨F.len, fun A outer s H args us vs Q E hr => F.run A outer s H args us vs Q E (hr.mono h)⟩
/-- a def by its body -/
theorem fn_g {x qual : Str} {st : Stmt} {f : Addr} {fd : FuncData} {N ps : List Str} {k : Nat} {sp : Sp} (F : Fun K x qual st f fd) (S : FnScope N ps (defScope st)) (len : ∀ vs H Q E, sp vs H Q E → vs.length = ps.length)
    (hbody : ∀ (cdv : Value) (A : Around) (outer : List Env) (s : Shared) (H : Hp) (vs : List V) (Q : VK) (E : XK), Room k (A.deeper (envOfC qual (defScope st) s.heap.objs.size f cdv)) → NoG A → sp vs H Q E →
      ∃ t, PSs (cxOf (L2.CX P w) P w K mg base N qual (defScope st) f cdv A outer s H E) (defBody st) t ∧ t { nx := fun _ H' => Q .non H', rt := Q } (L2.start N vs) H) : FnG P w K mg base (k + 1) f fd ps sp := by
  obtain ⟨oc, od, kV, doc, pm, an, cdv, ct, osl, rfl, lk, hcd⟩ := F.ex
  refine ⟨len, fun A outer s H args us vs Q E hr hg e0 hb r hsp => ?_⟩
  have hl := len _ _ _ _ hsp
  have KX : K.In s.heap := e0.mod.kin.keeps fun b o e => (e0.bs b o e).1
  have lim : s.heap.NoLimit := e0.mod.nolimit.keeps fun b o e => (e0.bs b o e).1
  refine codeAny_call_function hr.depth (KX _ _ lk) rfl S.co S.gen rfl (PySem.W.codeRec_of KX hcd) (hb _ _ _ _ ?_)
  refine wpAny_newFunctionEnv_cells S.kind (fun ⟨n, v⟩ hy => ?_) fun env he s1 xc => ?_
  · rcases S.par n (List.of_mem_zip hy).1 with q | q
    · exact .inl q
    · exact .inr ⟨q, PySem.W.cellsFrom_some _ _ _ (.inl q)⟩
  subst he
  refine ⟨lim.keeps xc.toInCall.keep, codeAny_func ?_⟩
  obtain ⟨t, ht, hq⟩ := hbody cdv A outer s H vs Q E (hr.deeper _) hg hsp
  refine wpAny_mono (ht.run [] s1 (L2.start N vs) H _ (inv_start S hr.hd e0 hl r xc) hq) (fun fl s' hs => ?_) fun e s' hs => hs
  cases fl with
  | ret u => obtain ⟨v, σ', H', J, rv, q⟩ := hs; exact ⟨v, H', J.os, J.bare, J.base, J.hok, rv, q⟩
  | next => obtain ⟨σ', H', J, q⟩ := hs; exact ⟨.non, H', J.os, J.bare, J.base, J.hok, rfl, q⟩
  | brk => obtain ⟨σ', H', J, q⟩ := hs; exact q.elim
  | cont => obtain ⟨σ', H', J, q⟩ := hs; exact q.elim
theorem fn_gC {x qual : Str} {st : Stmt} {f : Addr} {fd : FuncData} {N ps : List Str} {k : Nat} {g : Sl → CS} (F : Fun K x qual st f fd) (S : FnScope N ps (defScope st))
    (hbody : ∀ (cdv : Value) (A : Around) (outer : List Env) (s : Shared) (H : Hp) (E : XK), Room k (A.deeper (envOfC qual (defScope st) s.heap.objs.size f cdv)) → NoG A →
      DSs (cxOf (L2.CX P w) P w K mg base N qual (defScope st) f cdv A outer s H E) tb (fun c d _ H' => E c d H') (defBody st) g) : FnG P w K mg base (k + 1) f fd ps (spD ⟨K, mg, tb⟩ ps.length (denC N.length g)) := by
  refine fn_g F S (fun vs H Q E h => ?_) (fun cdv A outer s H vs Q E hr hg h => ⟨_, hbody cdv A outer s H E hr hg, ?_⟩)
  · obtain ⟨ρ, ds, r, hl, _⟩ := h
    rw [r.length, hl]
  · obtain ⟨ρ, ds, r, hl, c⟩ := h
    exact ⟨st0 N.length ds, ρ, st0_rep r, end_c c⟩
theorem fn_gK {x qual : Str} {st : Stmt} {f : Addr} {fd : FuncData} {N ps : List Str} {k : Nat} {g : Sl → CS} (F : Fun K x qual st f fd) (S : FnScope N ps (defScope st))
    (hbody : ∀ (cdv : Value) (A : Around) (outer : List Env) (s : Shared) (H : Hp) (E : XK), Room k (A.deeper (envOfC qual (defScope st) s.heap.objs.size f cdv)) → NoG A →
      DSs (cxOf (L2.CX P w) P w K mg base N qual (defScope st) f cdv A outer s H E) tb (fun c d _ H' => E c d H') (defBody st) g) : FnG P w K mg base (k + 1) f fd ps (spD ⟨K, mg, tb⟩ ps.length (denK N.length g)) := by
  refine fn_g F S (fun vs H Q E h => ?_) (fun cdv A outer s H vs Q E hr hg h => ⟨_, hbody cdv A outer s H E hr hg, ?_⟩)
  · obtain ⟨ρ, ds, r, hl, _⟩ := h
    rw [r.length, hl]
  · obtain ⟨ρ, ds, r, hl, c⟩ := h
    exact ⟨st0 N.length ds, ρ, st0_rep r, end_k c⟩
/-- another meaning, which says less -/
theorem FnG.den {f : Addr} {fd : FuncData} {ps : List Str} {k n : Nat} {d1 d2 : List D → Cm D} {G : Gx} (F : FnG P w K mg base k f fd ps (spD G n d1)) (h : ∀ ds μ r, ds.length = n → d2 ds μ = some r → d1 ds μ = some r) : FnG P w K mg base k f fd ps (spD G n d2) :=
  F.imp fun vs H Q E ⟨ρ, ds, r, hl, μ, q, μ', hm, hc, he⟩ => ⟨ρ, ds, r, hl, μ, q, μ', hm, h ds μ _ hl hc, he⟩
end
section
variable {X : Cx} {tb : Addr → Prop} {W : WX} {pos : Pos} {k n : Nat} {f : Addr} {fd : FuncData} {ps : List Str} {den : List D → Cm D}
theorem run_g {pins : List (Addr × Obj)} {σ : L2.St} {H : Hp} {s : Shared} {Q : VK} {us : List Value} {vs : List V} {sp : Sp} {E : XK} (F : FnG X.prog X.w X.K X.mg X.base k f fd ps sp) (hr : Room k X.A) (hG : NoG X.A) (b : ∀ s : Shared, X.K.In s.heap → ∃ args, BindsTo s fd args (ps.zip us) ∧ args = ⟨us, []⟩)
    (hx : PassesAt (L2.CX X.prog X.w) X σ E) (I : Inv X pins σ H s) (r : Vals vs us) (h : sp vs H Q E) : wpAny (model X.prog X.w) X.A (call (.ref f) us) (EP X pins σ Q) X.xe s := by
  obtain ⟨args, hb, rfl⟩ := b s I.kIn
  refine wpAny_call (codeAny_mono (F.run X.A X.stack s H ⟨us, []⟩ us vs Q E hr hG I.env0 hb r h) fun r s' hq => ?_)
  cases r with
  | error e => exact hx pins H s e s' I hq
  | ok fl =>
    cases fl with
    | ret u => exact I.after hq
    | next => exact False.elim hq
    | brk => exact False.elim hq
    | cont => exact False.elim hq
/-- f(e, ..) -/
theorem de_fn {x : Str} {p : Pos} {e : Expr} {es : List Expr} {fs : Sl → Cm (List D)} (F : FnG X.prog X.w X.K X.mg X.base k f fd ps (spD (gx X tb) n den)) (hr : Room k X.A) (hG : NoG X.A) (hg : Gl X x) (hm : X.mg x = some (.ref f)) (hk : PySem.W.keepIn X.K (.ref f) = true) (hb : Binds X.K fd ps []) (tk : Takes X W)
    (ha : DA X tb W (e :: es) fs) (hdb : (x == ("__debug__" : Str)) = false := by decide) (he : starEach (e :: es) X.env = (false, eval e X.env) :: starEach es X.env := by rfl) (hpl : (backTo pos (starEach es X.env)).any (·.1) = false := by rfl) :
    DE X tb W (.Call (.Name x p) (e :: es) [] pos) (eCB (oCall n den) fs) := by
  refine ⟨fun pins s σ H Q I h => ?_⟩
  refine wpAny_Call_Name_kw (ld_glob I hg hm ?_ hdb)
  have h2 : rd (gx X tb) (rVs X.K) W fs σ H fun vs H1 => spD (gx X tb) n den vs H1 Q (WE W σ) := by
    obtain ⟨sl, ρ, hs, hc⟩ := h
    exact ⟨sl, ρ, hs, (Cfg.bind (Rq := rVs X.K) hc).imp fun vs H1 ⟨ρ1, ds, rs, x, kk, c⟩ => by
      unfold oCall at c
      by_cases hl : ds.length = n
      · rw [if_pos hl] at c; exact ⟨ρ1, ds, rs, hl, c⟩
      · rw [if_neg hl] at c; exact c.fails.elim⟩
  refine PySem.W.callWith_K (h₀ := X.base) I.ok.mod.kin hk (thn (ha.run pos pins s σ H _ I h2) fun us s1 ⟨vs, H1, I1, r, q⟩ => ⟨I1.kIn, ?_⟩) he hpl
  refine run_g F hr hG (fun s' hs' => ⟨_, ?_, rfl⟩) (passAt tk σ) I1 r q
  have hl : (us ++ []).length = ps.length := by rw [List.append_nil, ← r.length]; exact F.len _ _ _ _ q
  have := hb s' us hs' hl
  rw [List.append_nil] at this
  exact this
/-! ### keywords -/
abbrev DK (X : Cx) (tb : Addr → Prop) (W : WX) (kws : List Keyword) (f : Sl → Cm (List D)) : Prop := PK X kws (rd (gx X tb) (rVs X.K) W f)
theorem _root_.L2.PK.imp {X : Cx} {e : List Keyword} {t t' : TA} (h : PK X e t) (i : ∀ σ H Q, t' σ H Q → t σ H Q) : PK X e t' := ⟨fun p pi s σ H Q I q => h.run p pi s σ H Q I (i σ H Q q)⟩
theorem dk_nil : DK X tb W [] (fun _ => Cm.ok []) := pk_nil.imp fun σ H Q ⟨sl, ρ, hs, hc⟩ => hc.ok [] .nil
theorem dk_cons {nm : Option Str} {a : Expr} {kpos : Pos} {kws : List Keyword} {f : Sl → Cm D} {g : Sl → Cm (List D)} (ha : DE X tb W a f) (hb : DK X tb W kws g) : DK X tb W (⟨nm, a, kpos⟩ :: kws) (aCons f g) :=
  (pk_cons ha hb).imp fun σ H Q ⟨sl, ρ, hs, hc⟩ => ⟨sl, ρ, hs, (Cfg.bind (Rq := rV X.K) hc).imp fun v H1 ⟨ρ1, d, r, x, k, c⟩ =>
    ⟨sl, ρ1, hs.step x k, (Cfg.bind (Rq := rVs X.K) c).imp fun vs H2 ⟨ρ2, ds, rs, x2, k2, c2⟩ => c2.ok (v :: vs) (.cons (DRep.step x2 k2 d v r) rs)⟩⟩
/-- the items at these places -/
def ord {α : Type} (p : List Nat) (xs : List α) : List α := p.filterMap fun i => xs[i]?
theorem ord_paired {α β : Type} {F : α → β → Prop} {xs : List α} {ys : List β} (h : Paired F xs ys) : ∀ p : List Nat, Paired F (ord p xs) (ord p ys)
  | [] => .nil
  | i :: p => by
    unfold ord
    rw [List.filterMap_cons, List.filterMap_cons]
    cases e : ys[i]? with
    | none =>
      have : xs[i]? = none := by rw [List.getElem?_eq_none_iff] at e ⊢; rw [h.length]; exact e
      rw [this]
      exact ord_paired h p
    | some y =>
      obtain ⟨x, h1, h2⟩ := pget h e
      rw [h1]
      exact .cons h2 (ord_paired h p)
theorem ord_reps {K : PySem.W.Frag} {H : Hp} {ρ : Rho} {vs : List V} {ds : List D} (h : DReps K H ρ vs ds) : ∀ p : List Nat, DReps K H ρ (ord p vs) (ord p ds)
  | [] => .nil
  | i :: p => by
    unfold ord
    rw [List.filterMap_cons, List.filterMap_cons]
    cases e : ds[i]? with
    | none =>
      have : vs[i]? = none := by rw [List.getElem?_eq_none_iff] at e ⊢; rw [h.length]; exact e
      rw [this]
      exact ord_reps h p
    | some y =>
      obtain ⟨x, h1, h2⟩ := h.get e
      rw [h1]
      exact .cons h2 (ord_reps h p)
def eKw (n : Nat) (den : List D → Cm D) (pm : List Nat) (fs : Sl → Cm (List D)) : Sl → Cm D := fun sl => (fs sl).bind fun ds => oCall n den (ord pm ds)
/-- f(k = e, ..) -/
theorem de_fnK {x : Str} {p : Pos} {kws : List Keyword} {ks : List Str} {pm : List Nat} {fs : Sl → Cm (List D)} (F : FnG X.prog X.w X.K X.mg X.base k f fd ps (spD (gx X tb) n den)) (hr : Room k X.A) (hG : NoG X.A) (hg : Gl X x) (hm : X.mg x = some (.ref f)) (hk : PySem.W.keepIn X.K (.ref f) = true)
    (hb : ∀ (s : Shared) (ws : List Value), X.K.In s.heap → ws.length = ks.length → BindsTo s fd ⟨[], ks.zip ws⟩ (ps.zip (ord pm ws))) (tk : Takes X W)
    (hkw : DK X tb W kws fs) (hlen : ∀ sl μ ds μ', fs sl μ = some (.ok ds, μ') → ds.length = ks.length) (hall : (backToKw pos (keywordEach kws X.env)).all (·.1.isSome) = true := by rfl) (hks : (backToKw pos (keywordEach kws X.env)).filterMap (·.1) = ks := by rfl)
    (hdb : (x == ("__debug__" : Str)) = false := by decide) (hpl : ((backTo pos (starEach [] X.env)).any (·.1) || (backToKw pos (keywordEach kws X.env)).any (·.1.isNone)) = false := by rfl) :
    DE X tb W (.Call (.Name x p) [] kws pos) (eKw n den pm fs) := by
  refine ⟨fun pins s σ H Q I h => ?_⟩
  refine wpAny_Call_Name_kw (ld_glob I hg hm ?_ hdb)
  have h2 : rd (gx X tb) (rVs X.K) W fs σ H fun vs H1 => vs.length = ks.length ∧ spD (gx X tb) n den (ord pm vs) H1 Q (WE W σ) := by
    obtain ⟨sl, ρ, hs, hc⟩ := h
    refine ⟨sl, ρ, hs, ?_⟩
    obtain ⟨μ, q, μ', hm', hc', he'⟩ := hc
    rcases bind_inv hc' with ⟨ds, μ1, g1, g2⟩ | ⟨xx, μ1, g1, g2⟩
    · refine ⟨μ, .ok ds, μ1, hm', g1, fun vs H1 ρ1 st rs => ⟨by rw [DReps.length rs]; exact hlen _ _ _ _ g1, ?_⟩⟩
      unfold oCall at g2
      by_cases hl : (ord pm ds).length = n
      · rw [if_pos hl] at g2
        refine ⟨ρ1, ord pm ds, ord_reps rs pm, hl, μ1, q, μ', st.mu, g2, ?_⟩
        cases q with
        | ok d => exact fun v H' ρ' st' r' => he' v H' ρ' (st.trans st') r'
        | ex x => exact fun cls dd H' ρ' st' r' => he' cls dd H' ρ' (st.trans st') r'
      · rw [if_neg hl] at g2; cases g2
    · cases g2
      exact ⟨μ, .ex xx, _, hm', g1, he'⟩
  refine PySem.W.callWith_KW0 (h₀ := X.base) I.ok.mod.kin hk hall (thn (hkw.run pos pins s σ H _ I h2) fun us s1 ⟨vs, H1, I1, r, hvl, q⟩ => ⟨I1.kIn, ?_⟩) hpl
  rw [hks]
  have hul : us.length = ks.length := by rw [← r.length]; exact hvl
  show wpAny _ _ (call (.ref f) [] (ks.zip us)) _ _ _
  refine wpAny_call (codeAny_mono (F.run X.A X.stack s1 H1 ⟨[], ks.zip us⟩ (ord pm us) (ord pm vs) Q (WE W σ) hr hG I1.env0 (hb s1 us I1.kIn hul) (ord_paired r pm) q) fun r' s' hq => ?_)
  cases r' with
  | error e => exact passAt tk σ pins H1 s1 e s' I1 hq
  | ok fl =>
    cases fl with
    | ret u => exact I1.after hq
    | next => exact False.elim hq
    | brk => exact False.elim hq
    | cont => exact False.elim hq
end
end DL

namespace DL
open PySem PySem.Spec PyProof.Rows L2
/-! ## repr of a list or a tuple -/
def rRepr (K : PySem.W.Frag) : List V → Hp → VK → Prop := fun xs H Q => ∃ (a : Addr) (p : PyData), xs = [.ref a] ∧ Dp K H (.ref a) p ∧ p.showable = true ∧ p.hasDict = false ∧ p.depth ≤ 40 ∧ p.shown.length ≤ sizeLine ∧ Q (.str p.shown) H
theorem call_reprD {X : Cx} (hG : NoG X.A) (hu : X.A.units + 64 < cLine) : CallR X (.builtin "repr") (rRepr X.K) := by
  intro pins s σ H xs us Q I r h
  obtain ⟨a, p, rfl, hd, h1, h2, h3, h4, q⟩ := h
  obtain ⟨u, rfl, rx⟩ := vals1 r
  cases (show u = Value.ref a from rx)
  obtain ⟨as, r1⟩ := Dp.reads I p _ _ hd rx
  exact repr_of_reads' r1 h1 (fun z => by rw [h2] at z; cases z) hG (by omega) (fun b o e => e) (fun h' u tk hk => ⟨.str p.shown, H, I.kept hk, ⟨_, rfl⟩, q⟩) h4
def isRefD : D → Bool
  | .lst _ => true | .tup _ => true | .mref _ => true | .dic _ _ => true | .wtup _ => true
  | _ => false
def oRepr : List D → Cm D
  | [d] => Cm.look fun μ => (pyD μ d).bind fun p => if isRefD d = true ∧ p.showable = true ∧ p.hasDict = false ∧ p.depth ≤ 40 ∧ p.shown.length ≤ sizeLine then some (.str p.shown) else none
  | _ => Cm.fail
theorem pyD_ok {G : Gx} {H : Hp} {ρ : Rho} {μ : Mu} (m : MuRep G H ρ μ) {v : V} {d : D} {p : PyData} (r : DRep G.K H ρ v d) (e : pyD μ d = some p) : Dp G.K H v p := by
  cases d with
  | mref h =>
    have q : (dL μ (.mref h)).bind (fun xs => (pyCs xs).map .list) = some p := e
    cases q1 : dL μ (.mref h) with
    | none => rw [q1] at q; cases q
    | some xs =>
      cases q2 : pyCs xs with
      | none => rw [q1] at q; simp [q2] at q
      | some ps =>
        rw [q1] at q
        simp [q2] at q
        subst q
        obtain ⟨a, vs, rfl, h1, r1⟩ := m.dL r q1
        exact .lst (.inl h1) (py_reps xs vs ps r1 q2)
  | _ => exact py_rep _ v p r e
theorem sem_repr {G : Gx} : SemC G oRepr (rRepr G.K) := by
  intro W ρ H xs ds Q rs c
  match ds, rs, c with
  | [d], rs, c =>
    obtain ⟨v, rfl, r⟩ := reps1 rs
    obtain ⟨μ, d', hm, e, c⟩ := Cfg.look (f := fun μ => (pyD μ d).bind fun p => if isRefD d = true ∧ p.showable = true ∧ p.hasDict = false ∧ p.depth ≤ 40 ∧ p.shown.length ≤ sizeLine then some (D.str p.shown) else none) c
    cases e1 : pyD μ d with
    | none => rw [e1] at e; cases e
    | some p =>
      rw [e1] at e
      have e : (if isRefD d = true ∧ p.showable = true ∧ p.hasDict = false ∧ p.depth ≤ 40 ∧ p.shown.length ≤ sizeLine then some (D.str p.shown) else none) = some d' := e
      by_cases hc : isRefD d = true ∧ p.showable = true ∧ p.hasDict = false ∧ p.depth ≤ 40 ∧ p.shown.length ≤ sizeLine
      · rw [if_pos hc] at e
        cases e
        have hd := pyD_ok hm r e1
        have : ∃ a, v = .ref a := by
          cases d with
          | lst _ => cases r with | lst _ _ => exact ⟨_, rfl⟩
          | tup _ => cases r with | tup _ _ => exact ⟨_, rfl⟩
          | mref _ => cases r with | mref _ _ => exact ⟨_, rfl⟩
          | dic _ _ => cases r with | dic _ _ _ _ => exact ⟨_, rfl⟩
          | wtup _ => cases r with | wtup _ _ => exact ⟨_, rfl⟩
          | _ => exact absurd hc.1 (by simp [isRefD])
        obtain ⟨a, rfl⟩ := this
        exact ⟨a, p, rfl, hd, hc.2.1, hc.2.2.1, hc.2.2.2.1, hc.2.2.2.2, c.ok _ (.str _)⟩
      · rw [if_neg hc] at e; cases e
  | [], _, c => exact c.fails.elim
  | _ :: _ :: _, _, c => exact c.fails.elim
end DL

namespace DL
open PySem PySem.Spec PyProof.Rows L2 GxR
/-! ## the end of a law -/
/-- the heap at the law's call: the script, the tables -/
def HEnd (a : Addr) (vs : List Value) (ns : List Int) (T : List Addr) : Hp := fun b => if b = a then some (.frz { cls := .type "list", data := .seq vs.toArray } (.lst (ns.map V.int))) else if b ∈ T then some (.tbl #[]) else none
section
variable {P : Program} {w : World} {K : PySem.W.Frag} {mg mb : Str → Option Value} {k : Nat} {fa a : Addr} {cs : List (Addr × Addr)} {fd : FuncData} {x : Str} {sp : Sp} {s₁ : Shared} {vs : List Value} {ns : List Int}
theorem law_callG (KX : K.In s₁.heap) (hns : s₁.heap.Ns mainGlobals mg) (hb : s₁.heap.Ns builtinsNs mb) (hbb : ∀ x : Str, x ≠ "__name__" → mb x = bootBuiltins x) (hlim : s₁.heap.NoLimit) (hg : s₁.gens = #[])
    (hT : ∀ p ∈ cs, s₁.heap.get? p.2 = some { cls := .none, data := .fields #[] }) (nT : ∀ p ∈ cs, K.lookup p.2 = none) (C : ∀ p ∈ cs, PySem.W.CodeHd s₁.heap p.1 p.2)
    (hbm : ∃ (bm : Addr) (ob : Obj), mg "__builtins__" = some (.ref bm) ∧ bm ≠ builtinsNs ∧ s₁.heap.get? bm = some ob ∧ ob.cls = .type "module" ∧ ob.dict = some builtinsNs ∧ ob.data = .plain)
    (ha : s₁.heap.get? a = some { cls := .type "list", data := .seq vs.toArray }) (hi : IntsAre vs ns) (hl : ns.length ≤ sizeLine) (hr : Room k callerA) (noL : K.lookup a = none)
    (F : ∀ base : Heap, K.In base → base.Ns mainGlobals mg → (∀ p ∈ cs, TabB base mg p.1 p.2) → FnG P w K mg base k fa fd [x] sp) (hbind : ∀ (s : Shared) (u : Value), BindsTo s fd ⟨[u], []⟩ [(x, u)])
    (hsp : sp [.ref a] (HEnd a vs ns (cs.map (·.2))) (fun v _ => v = .bl true) fun _ _ _ => False) :
    codeAny (model P w) callerA (.call (.ref fa) ⟨[.ref a], []⟩) (fun r s' => r = .ok (.ret (.bool true)) ∧ OldK s₁.heap s'.heap ∧ s'.os = s₁.os ∧ AllBare s'.gens) s₁ := by
  have rv := vals_ints hi
  have isT : ∀ b : Addr, b ∈ cs.map (·.2) → s₁.heap.get? b = some { cls := .none, data := .fields #[] } := fun b hb => by
    obtain ⟨p, hp, e⟩ := List.mem_map.mp hb
    rw [← e]
    exact hT p hp
  have aT : a ∉ cs.map (·.2) := fun z => by
    have q := isT a z
    rw [ha] at q
    cases q
  generalize hH : HEnd a vs ns (cs.map (·.2)) = H at hsp
  have Ha : H a = some (.frz { cls := .type "list", data := .seq vs.toArray } (.lst (ns.map V.int))) := by rw [← hH]; exact if_pos rfl
  have Ht : ∀ b, b ∈ cs.map (·.2) → H b = some (.tbl #[]) := fun b hb => by rw [← hH]; exact (if_neg fun z => aT (by rw [← z]; exact hb)).trans (if_pos hb)
  have Hn : ∀ b, b ≠ a → b ∉ cs.map (·.2) → H b = none := fun b h1 h2 => by rw [← hH]; exact (if_neg h1).trans (if_neg h2)
  have three : ∀ b, b = a ∨ b ∈ cs.map (·.2) ∨ H b = none := fun b => by
    by_cases h1 : b = a
    · exact .inl h1
    · by_cases h2 : b ∈ cs.map (·.2)
      · exact .inr (.inl h2)
      · exact .inr (.inr (Hn b h1 h2))
  have hok : HOk P w H s₁.heap := fun b u z => by
    rcases three b with e | e | e
    · rw [e] at z ⊢
      rw [Ha] at z
      cases z
      exact ⟨ha, by rw [List.length_map]; exact hl, vs, _, rv, ha⟩
    · rw [Ht b e] at z
      cases z
      exact isT b e
    · rw [e] at z; cases z
  -- an object that is no such list and no empty record is not tracked
  have noD : ∀ {b : Addr} {o : Obj}, s₁.heap.get? b = some o → (∀ vs n, o.data ≠ .seq vs n) → o.data ≠ .fields #[] → H b = none := fun {b o} e h1 h2 => by
    rcases three b with q | q | q
    · rw [q, ha] at e; cases e; exact (h1 _ _ rfl).elim
    · rw [isT b q] at e; cases e; exact (h2 rfl).elim
    · exact q
  have base_of : ∀ {b : Addr} {o : Obj}, s₁.heap.get? b = some o → H b = none → (hidT s₁.heap H).get? b = some o := fun e n => hidT_get e n
  have noA : ∀ {b : Addr} {o : Obj} {es : Array DictEntry} {ep : Nat}, s₁.heap.get? b = some o → o.data = .dict es ep → H b = none := fun e d => noD e (fun _ _ z => by rw [d] at z; cases z) fun z => by rw [d] at z; cases z
  have nsK : ∀ {b : Addr} {m : Str → Option Value}, s₁.heap.Ns b m → (hidT s₁.heap H).Ns b m := fun ⟨o, es, ep, e, d, r⟩ => ⟨o, es, ep, base_of e (noA e d), d, r⟩
  have hKb : K.In (hidT s₁.heap H) := fun b o e => base_of (KX b o e) (by
    rcases three b with q | q | q
    · rw [q, noL] at e; cases e
    · obtain ⟨p, hp, ep⟩ := List.mem_map.mp q
      rw [← ep, nT p hp] at e; cases e
    · exact q)
  have hM : L2.Mod K mg (hidT s₁.heap H) := ⟨hKb, nsK hns, ⟨mb, nsK hb, hbb⟩, let ⟨mc, h1, h2⟩ := hlim; ⟨mc, nsK h1, h2⟩⟩
  have TB : ∀ p ∈ cs, TabB (hidT s₁.heap H) mg p.1 p.2 := fun p hp => by
    have hTp := hT p hp
    refine ⟨?_, ?_, fun z => ?_⟩
    · obtain ⟨o, us, file, tf, flags, tg, inF, text, tt, e1, r1, r2, r3, r4, r5, r6, r7, r8, hne⟩ := C p hp
      refine ⟨o, us, file, tf, flags, tg, inF, text, tt, base_of e1 (noD e1 (fun vs n z => ?_) fun z => ?_), r1, r2, r3, r4, r5, r6, r7, r8, hne⟩
      · rw [r2] at z; cases z
      · rw [r2] at z; cases z; simp at r3
    · obtain ⟨bm, ob, b1, b2, b3, b4, b5, b6⟩ := hbm
      have nG : bm ≠ mainGlobals := fun q => by
        obtain ⟨o, es, ep, e, hd, _⟩ := hns
        rw [q, e] at b3
        cases b3
        rw [hd] at b6
        cases b6
      have nP : bm ≠ p.2 := fun q => by
        rw [q, hTp] at b3
        cases b3
        cases b6
      exact ⟨bm, ob, b1, b2, nG, nP, base_of b3 (noD b3 (fun vs n z => by rw [b6] at z; cases z) fun z => by rw [b6] at z; cases z), b4, b5, b6⟩
    · obtain ⟨o, es, ep, e, hd, _⟩ := hns
      rw [z, hTp] at e
      cases e
      cases hd
  have e0 : Env0 P w K mg (hidT s₁.heap H) callerA [] s₁ H := ⟨rfl, hM, fun b o e => of_hidT e, Nat.le_of_eq (hidT_size _ _), trivial, fun b hb => absurd (show b ∈ ([] : List Addr) from hb) (by simp), hok, .of_eq hg⟩
  refine codeAny_mono ((F _ hKb (nsK hns) TB).run callerA [] s₁ H ⟨[.ref a], []⟩ [.ref a] [.ref a] _ _ hr rfl e0 (hbind s₁ (.ref a)) (.cons rfl .nil) hsp) fun r s' h => ?_
  cases r with
  | error e =>
    obtain ⟨_, _, _, _, _, _, _, _, _, _, _, _, z⟩ := h
    exact z.elim
  | ok fl =>
    cases fl with
    | next => exact False.elim h
    | brk => exact False.elim h
    | cont => exact False.elim h
    | ret u =>
      obtain ⟨v, H', os, bare, un, hok', r', q⟩ := h
      have q' : v = .bl true := q
      subst q'
      obtain rfl : u = Value.bool true := r'
      have key : ∀ b o, b ∉ cs.map (·.2) → s₁.heap.get? b = some o → s'.heap.get? b = some o := fun b o nb e => by
        rcases three b with z | z | z
        · rw [z] at e ⊢
          have z2 := un.frzs a _ _ Ha
          obtain ⟨e2, _⟩ := hok' a _ z2
          rw [ha] at e; cases e
          exact e2
        · exact absurd z nb
        · exact un.keep b o e z (by intro z; exact absurd (show b ∈ ([] : List Addr) from z) (by simp)) (by simp)
      have grown : ∀ p ∈ cs, ∃ more : Array Value, s'.heap.get? p.2 = some { cls := .none, data := .fields more } := fun p hp => by
        obtain ⟨more, z⟩ := un.tbls p.2 #[] (Ht _ (List.mem_map.mpr ⟨p, hp, rfl⟩))
        exact ⟨_, hok' p.2 _ z⟩
      refine ⟨rfl, ⟨fun b o e => ?_, fun b o e => ?_⟩, os, bare⟩
      · by_cases hb : b ∈ cs.map (·.2)
        · obtain ⟨p, hp, ep⟩ := List.mem_map.mp hb
          obtain ⟨more, hm⟩ := grown p hp
          rw [← ep] at e ⊢
          rw [hT p hp] at e
          cases e
          exact .inr (.inl ⟨((C p hp).tab (hT p hp)).isCodeTable, rfl, #[], more, rfl, by rw [Array.empty_append]; exact hm⟩)
        · exact .inl (key b o hb e)
      · by_cases hb : b ∈ cs.map (·.2)
        · obtain ⟨p, hp, ep⟩ := List.mem_map.mp hb
          obtain ⟨more, hm⟩ := grown p hp
          rw [← ep]
          exact ⟨_, hm⟩
        · exact ⟨o, key b o hb e⟩
end
/-- what is known of the law at the head's heap h: the promise by a meaning -/
def LawG (l : PySem.W.OpenLaw) (w : World) (K : PySem.W.Frag) (k n : Nat) (x : Str) (mg : Str → Option Value) (fa : Addr) (h : Heap) : Prop :=
  ∃ (fd : FuncData) (cs : List (Addr × Addr)) (den : List D → Cm D), (∀ p ∈ cs, h.get? p.2 = some { cls := .none, data := .fields #[] }) ∧ (∀ p ∈ cs, K.lookup p.2 = none) ∧ (∀ p ∈ cs, PySem.W.CodeHd h p.1 p.2) ∧ (∀ (s : Shared) (u : Value), BindsTo s fd ⟨[u], []⟩ [(x, u)]) ∧
    (∀ ns : List Int, ns.length ≤ n → (∀ z ∈ ns, Builtin.Int.intBits z ≤ 1048576) → ∃ μ', den [.lst (ns.map .int)] [] = some (.ok (.bl true), μ')) ∧
    (∀ a o, K.lookup a = some o → o.cls ≠ .type "list") ∧
    ∀ base : Heap, K.In base → base.Ns mainGlobals mg → (∀ p ∈ cs, TabB base mg p.1 p.2) → FnG l.prog w K mg base k fa fd [x] (spD ⟨K, mg, fun P => P ∈ cs.map (·.2)⟩ 1 den)
theorem ints_reps {K : PySem.W.Frag} {H : Hp} {ρ : Rho} : ∀ ns : List Int, DReps K H ρ (ns.map V.int) (ns.map D.int)
  | [] => .nil
  | n :: ns => .cons (.int n) (ints_reps ns)
theorem walk_G {l : PySem.W.OpenLaw} {n k : Nat} {q : Program} {loose : List Str} {XP : (Str → Option Value) → Heap → Prop} {YP : World → Heap → Prop} {d : DefRec} {K : Params → PySem.W.Frag} {x : Str}
    (hn : l.most = some n) (hn2 : n ≤ sizeLine) (hdf : d.params.defaults = []) (hr : Room k callerA) (hY : ∀ (w : World) (h : Heap), YP w h → (K w.params).In h)
    (F : ∀ (w : World) (mg : Str → Option Value) (fa : Addr) (h : Heap), YP w h → (K w.params).In h → h.Ns mainGlobals mg → mg d.name = some (.ref fa) → LawG l w (K w.params) k n x mg fa h) :
    PySem.W.WalkO q loose XP YP l.row.toRowW d [] (fun f vs => PySem.call f vs) := by
  refine Att.attach_callB hn hdf fun w s₀ s₁ mg mb fa o pm cd doc a vs ns G Y ho hd hcd hmg hobj hints hlen hbits hg => ?_
  have KX := hY w _ Y
  obtain ⟨fd, cs, den, hT, nT, C, hb, hden, noL, hF⟩ := F w mg fa _ Y KX G.T.g hmg
  have hna : (K w.params).lookup a = none := by
    cases e : (K w.params).lookup a with
    | none => rfl
    | some o =>
      have := noL a o e
      have e2 := KX a o e
      rw [hobj] at e2
      cases e2
      exact absurd rfl this
  refine law_callG KX G.T.g G.T.b G.T.builtins G.T.nolimit hg hT nT C G.T.bmain hobj hints (Nat.le_trans hlen hn2) hr hna hF hb ?_
  obtain ⟨μ', hd⟩ := hden ns hlen hbits
  have Ha : HEnd a vs ns (cs.map (·.2)) a = some (.frz { cls := .type "list", data := .seq vs.toArray } (.lst (ns.map V.int))) := if_pos rfl
  have nl : NotLive ⟨[], []⟩ a := ⟨fun h e => by simp at e, fun e => by simp at e⟩
  refine ⟨⟨[], []⟩, [.lst (ns.map .int)], .cons (.lst ⟨.inr ⟨_, Ha⟩, nl⟩ (ints_reps ns)) .nil, rfl, [], .ok (.bl true), μ', ⟨rfl, fun h mo e => by simp at e, fun h a e => by simp at e, fun h h' a e => by simp at e, fun a e => by simp at e, fun P hP => ?_⟩, hd, fun v H' ρ' st r => ?_⟩
  · have hP : P ∈ cs.map (·.2) := hP
    have ne : P ≠ a := fun z => by
      obtain ⟨p, hp, e⟩ := List.mem_map.mp hP
      have := hT p hp
      rw [e, z, hobj] at this
      cases this
    exact ⟨#[], (if_neg ne).trans (if_pos hP), by simp [TriplesOk]⟩
  · cases r; rfl
end DL

namespace DL
open PySem PySem.Spec PyProof.Rows L2 GxR
/-- the tables of the defs of the text are empty -/
def TabsOf (q : Program) (K : PySem.W.Frag) (mg : Str → Option Value) (h : Heap) : Prop :=
  ∀ (nm : Str) (f c P : Addr) (o : Obj) (fd : FuncData) (e : Value) (dd : Option Addr) (vs : Array Value) (sl : Array (Option Value)), ((recsOf q).any fun e => e.name == nm) = true → mg nm = some (.ref f) →
    K.lookup f = some o → o.data = .func fd → fd.code = .ref c → K.lookup c = some ⟨e, dd, .fields vs, sl⟩ → vs[11]? = some (.ref P) → h.get? P = some { cls := .none, data := .fields #[] }
theorem walk_GT {l : PySem.W.OpenLaw} {n k : Nat} {q : Program} {loose : List Str} {XP : (Str → Option Value) → Heap → Prop} {YP : World → Heap → Prop} {d : DefRec} {K : Params → PySem.W.Frag} {x : Str}
    (hn : l.most = some n) (hn2 : n ≤ sizeLine) (hdf : d.params.defaults = []) (hr : Room k callerA) (hY : ∀ (w : World) (h : Heap), YP w h → (K w.params).In h)
    (F : ∀ (w : World) (mg : Str → Option Value) (fa : Addr) (h : Heap), YP w h → (K w.params).In h → h.Ns mainGlobals mg → mg d.name = some (.ref fa) → TabsOf q (K w.params) mg h → LawG l w (K w.params) k n x mg fa h) :
    PySem.W.WalkO q loose XP YP l.row.toRowW d [] (fun f vs => PySem.call f vs) := by
  refine Att.attach_callB hn hdf fun w s₀ s₁ mg mb fa o pm cd doc a vs ns G Y ho hd hcd hmg hobj hints hlen hbits hg => ?_
  have KX := hY w _ Y
  have tabs : TabsOf q (K w.params) mg s₁.heap := fun nm f c P o1 fd1 e dd vs1 sl hrec hf k1 k2 k3 k4 k5 => by
    obtain ⟨dL, hm, hn1⟩ := List.any_eq_true.mp hrec
    have hn2 : dL.name = nm := beq_iff_eq.mp hn1
    obtain ⟨a', o', fd', c', P', h1, h2, h3, h4, h5, h6⟩ := G.T.tab dL hm
    rw [hn2, hf] at h1
    cases h1
    have g1 := KX _ _ k1
    rw [g1] at h2
    cases h2
    rw [k2] at h3
    cases h3
    rw [k3] at h4
    cases h4
    obtain ⟨⟨oc, vc, e1, _, e3, e4⟩, hP⟩ := h6
    have g2 := KX _ _ k4
    rw [g2] at e1
    cases e1
    cases e3
    rw [k5] at e4
    cases e4
    exact hP
  obtain ⟨fd, cs, den, hT, nT, C, hb, hden, noL, hF⟩ := F w mg fa _ Y KX G.T.g hmg tabs
  have hna : (K w.params).lookup a = none := by
    cases e : (K w.params).lookup a with
    | none => rfl
    | some o =>
      have := noL a o e
      have e2 := KX a o e
      rw [hobj] at e2
      cases e2
      exact absurd rfl this
  refine law_callG KX G.T.g G.T.b G.T.builtins G.T.nolimit hg hT nT C G.T.bmain hobj hints (Nat.le_trans hlen hn2) hr hna hF hb ?_
  obtain ⟨μ', hd⟩ := hden ns hlen hbits
  have Ha : HEnd a vs ns (cs.map (·.2)) a = some (.frz { cls := .type "list", data := .seq vs.toArray } (.lst (ns.map V.int))) := if_pos rfl
  have nl : NotLive ⟨[], []⟩ a := ⟨fun h e => by simp at e, fun e => by simp at e⟩
  refine ⟨⟨[], []⟩, [.lst (ns.map .int)], .cons (.lst ⟨.inr ⟨_, Ha⟩, nl⟩ (ints_reps ns)) .nil, rfl, [], .ok (.bl true), μ', ⟨rfl, fun h mo e => by simp at e, fun h a e => by simp at e, fun h h' a e => by simp at e, fun a e => by simp at e, fun P hP => ?_⟩, hd, fun v H' ρ' st r => ?_⟩
  · have hP : P ∈ cs.map (·.2) := hP
    have ne : P ≠ a := fun z => by
      obtain ⟨p, hp, e⟩ := List.mem_map.mp hP
      have := hT p hp
      rw [e, z, hobj] at this
      cases this
    exact ⟨#[], (if_neg ne).trans (if_pos hP), by simp [TriplesOk]⟩
  · cases r; rfl
/-- a def of the text, its code known -/
structure FunC (K : PySem.W.Frag) (mg : Str → Option Value) (x : Str) (st : Stmt) (f : Addr) (fd : FuncData) (c : Value) : Prop where
  ex : ∃ (oc : Value) (od : Option Addr) (kV doc pm : Value) (an : Option Addr) (ct : Value) (osl : Array (Option Value)),
    fd = PySem.W.fnOf x x (defArgs st) (defBody st) (defScope st) .none kV doc pm an c ct ∧ K.lookup f = some ⟨oc, od, .func fd, osl⟩ ∧ PySem.W.codeIn K c x = true
  kp : PySem.W.keepIn K (.ref f) = true
  mgf : mg x = some (.ref f)
theorem FunC.fn {K : PySem.W.Frag} {mg : Str → Option Value} {x : Str} {st : Stmt} {f : Addr} {fd : FuncData} {c : Value} (F : FunC K mg x st f fd c) : Fun K x x st f fd := by
  obtain ⟨oc, od, kV, doc, pm, an, ct, osl, h⟩ := F.ex
  exact ⟨⟨oc, od, kV, doc, pm, an, c, ct, osl, h⟩, F.kp⟩
theorem funC_mk {K : PySem.W.Frag} {mg : Str → Option Value} {x : Str} {st : Stmt} {f : Addr} {oc kV doc pm cd ct : Value} {od an : Option Addr} {sl : Array (Option Value)} (l : K.lookup f = some ⟨oc, od, .func (PySem.W.fnOf x x (defArgs st) (defBody st) (defScope st) .none kV doc pm an cd ct), sl⟩)
    (c : PySem.W.codeIn K cd x = true) (kp : PySem.W.keepIn K (.ref f) = true) (m : mg x = some (.ref f)) : FunC K mg x st f (PySem.W.fnOf x x (defArgs st) (defBody st) (defScope st) .none kV doc pm an cd ct) cd :=
  ⟨⟨oc, od, kV, doc, pm, an, ct, sl, rfl, l, c⟩, kp, m⟩
section
variable {P : Program} {w : World} {K : PySem.W.Frag} {mg : Str → Option Value} {base : Heap} {tb : Addr → Prop}
/-- the body of a def with its code known -/
theorem fn_gx {x : Str} {st : Stmt} {f : Addr} {fd : FuncData} {c : Value} {N ps : List Str} {k : Nat} {sp : Sp} (F : FunC K mg x st f fd c) (S : FnScope N ps (defScope st)) (len : ∀ vs H Q E, sp vs H Q E → vs.length = ps.length)
    (hbody : ∀ (A : Around) (outer : List Env) (s : Shared) (H : Hp) (vs : List V) (Q : VK) (E : XK), Room k (A.deeper (envOfC x (defScope st) s.heap.objs.size f c)) → NoG A → sp vs H Q E →
      ∃ t, PSs (cxOf (L2.CX P w) P w K mg base N x (defScope st) f c A outer s H E) (defBody st) t ∧ t { nx := fun _ H' => Q .non H', rt := Q } (L2.start N vs) H) : FnG P w K mg base (k + 1) f fd ps sp := by
  obtain ⟨oc, od, kV, doc, pm, an, ct, osl, rfl, lk, hcd⟩ := F.ex
  refine ⟨len, fun A outer s H args us vs Q E hr hg e0 hb r hsp => ?_⟩
  have hl := len _ _ _ _ hsp
  have KX : K.In s.heap := e0.mod.kin.keeps fun b o e => (e0.bs b o e).1
  have lim : s.heap.NoLimit := e0.mod.nolimit.keeps fun b o e => (e0.bs b o e).1
  refine codeAny_call_function hr.depth (KX _ _ lk) rfl S.co S.gen rfl (PySem.W.codeRec_of KX hcd) (hb _ _ _ _ ?_)
  refine wpAny_newFunctionEnv_cells S.kind (fun ⟨n, v⟩ hy => ?_) fun env he s1 xc => ?_
  · rcases S.par n (List.of_mem_zip hy).1 with q | q
    · exact .inl q
    · exact .inr ⟨q, PySem.W.cellsFrom_some _ _ _ (.inl q)⟩
  subst he
  refine ⟨lim.keeps xc.toInCall.keep, codeAny_func ?_⟩
  obtain ⟨t, ht, hq⟩ := hbody A outer s H vs Q E (hr.deeper _) hg hsp
  refine wpAny_mono (ht.run [] s1 (L2.start N vs) H _ (inv_start S hr.hd e0 hl r xc) hq) (fun fl s' hs => ?_) fun e s' hs => hs
  cases fl with
  | ret u => obtain ⟨v, σ', H', J, rv, q⟩ := hs; exact ⟨v, H', J.os, J.bare, J.base, J.hok, rv, q⟩
  | next => obtain ⟨σ', H', J, q⟩ := hs; exact ⟨.non, H', J.os, J.bare, J.base, J.hok, rfl, q⟩
  | brk => obtain ⟨σ', H', J, q⟩ := hs; exact q.elim
  | cont => obtain ⟨σ', H', J, q⟩ := hs; exact q.elim
theorem fn_C {x : Str} {st : Stmt} {f : Addr} {fd : FuncData} {c : Value} {N ps : List Str} {k : Nat} {g : Sl → CS} (F : FunC K mg x st f fd c) (S : FnScope N ps (defScope st))
    (hbody : ∀ (A : Around) (outer : List Env) (s : Shared) (H : Hp) (E : XK), Room k (A.deeper (envOfC x (defScope st) s.heap.objs.size f c)) → NoG A →
      DSs (cxOf (L2.CX P w) P w K mg base N x (defScope st) f c A outer s H E) tb (fun c d _ H' => E c d H') (defBody st) g) : FnG P w K mg base (k + 1) f fd ps (spD ⟨K, mg, tb⟩ ps.length (denC N.length g)) := by
  refine fn_gx F S (fun vs H Q E h => ?_) (fun A outer s H vs Q E hr hg h => ⟨_, hbody A outer s H E hr hg, ?_⟩)
  · obtain ⟨ρ, ds, r, hl, _⟩ := h
    rw [r.length, hl]
  · obtain ⟨ρ, ds, r, hl, c⟩ := h
    exact ⟨st0 N.length ds, ρ, st0_rep r, end_c c⟩
theorem fn_K {x : Str} {st : Stmt} {f : Addr} {fd : FuncData} {c : Value} {N ps : List Str} {k : Nat} {g : Sl → CS} (F : FunC K mg x st f fd c) (S : FnScope N ps (defScope st))
    (hbody : ∀ (A : Around) (outer : List Env) (s : Shared) (H : Hp) (E : XK), Room k (A.deeper (envOfC x (defScope st) s.heap.objs.size f c)) → NoG A →
      DSs (cxOf (L2.CX P w) P w K mg base N x (defScope st) f c A outer s H E) tb (fun c d _ H' => E c d H') (defBody st) g) : FnG P w K mg base (k + 1) f fd ps (spD ⟨K, mg, tb⟩ ps.length (denK N.length g)) := by
  refine fn_gx F S (fun vs H Q E h => ?_) (fun A outer s H vs Q E hr hg h => ⟨_, hbody A outer s H E hr hg, ?_⟩)
  · obtain ⟨ρ, ds, r, hl, _⟩ := h
    rw [r.length, hl]
  · obtain ⟨ρ, ds, r, hl, c⟩ := h
    exact ⟨st0 N.length ds, ρ, st0_rep r, end_k c⟩
/-- a call of such a def -/
theorem de_f {X : Cx} {tb : Addr → Prop} {W : WX} {pos : Pos} {k n : Nat} {f : Addr} {fd : FuncData} {ps : List Str} {den : List D → Cm D} {x : Str} {st : Stmt} {c : Value} {p : Pos} {e : Expr} {es : List Expr} {fs : Sl → Cm (List D)} (F : FnG X.prog X.w X.K X.mg X.base k f fd ps (spD (gx X tb) n den)) (FC : FunC X.K X.mg x st f fd c) (hb : Binds X.K fd ps []) (hr : Room k X.A) (hG : NoG X.A) (tk : Takes X W) (hg : Gl X x)
    (ha : DA X tb W (e :: es) fs) (hdb : (x == ("__debug__" : Str)) = false := by decide) (he : starEach (e :: es) X.env = (false, eval e X.env) :: starEach es X.env := by rfl) (hpl : (backTo pos (starEach es X.env)).any (·.1) = false := by rfl) :
    DE X tb W (.Call (.Name x p) (e :: es) [] pos) (eCB (oCall n den) fs) := de_fn F hr hG hg FC.mgf FC.kp hb tk ha hdb he hpl
/-- such a def among a generator's elements -/
theorem fnQ_of {prog : Program} {w : World} {x : Str} {st : Stmt} {f : Addr} {fd : FuncData} {c : Value} {ps : List Str} {e0 : Expr} {p0 : Pos} (F : FunC K mg x st f fd c) (hb : Binds K fd ps []) (hbody : defBody st = [.Return (some e0) p0]) (loc : ∀ y ∈ ps, (defScope st).names.lookup y = some .local) (nd : ps.Nodup)
    (co : (defScope st).isCoroutine = false) (gen : (defScope st).isGenerator = false) (kind : (defScope st).kind = .function) : FnQ ⟨prog, w, K, mg, base⟩ ps e0 (defScope st) f fd := by
  obtain ⟨oc, od, kV, doc, pm, an, ct, osl, e, lk, hcd⟩ := F.ex
  refine ⟨⟨oc, od, x, x, defArgs st, p0, .none, kV, doc, pm, an, c, ct, osl, ?_, lk, hcd⟩, loc, nd, co, gen, kind, F.kp, hb⟩
  rw [e, hbody]
end
end DL

namespace DL
open PySem PySem.Spec PyProof.Rows L2 GxR
/-! ## words for the written derivations -/
/-- a look at a generator expression's scope: no name of the def is captured -/
def genC (sc : Scope) (xs : List Str) : Bool := decide (sc.kind = .function) && !sc.isCoroutine && sc.names.all (fun y => !decide (y.2 = .cell)) && decide (sc.names.lookup (".0" : Str) = some NameKind.local) && xs.all (fun x => decide (sc.names.lookup x = some .local)) && sc.names.all (fun y => !decide (y.2 = .free))
theorem genN0 {env : Env} {sc : Scope} {xs : List Str} (h : genC sc xs = true) : GenN env sc xs := by
  unfold genC at h
  simp only [Bool.and_eq_true, Bool.not_eq_true', decide_eq_true_eq, List.all_eq_true, decide_eq_false_iff_not] at h
  obtain ⟨⟨⟨⟨⟨h1, h2⟩, h3⟩, h4⟩, h5⟩, h6⟩ := h
  exact ⟨h1, h2, h3, h4, h5, fun y hy e => absurd e (h6 y hy)⟩
theorem capN_nil {X : Cx} {sc : Scope} : CapN X sc [] [] := ⟨rfl, fun i y j e => by simp at e⟩
theorem memLk {α : Type} : ∀ {l : List (Addr × α)} {a : Addr} {o : α}, l.lookup a = some o → (a, o) ∈ l
  | (b, v) :: r, a, o, h => by
    rw [List.lookup_cons] at h
    cases e : a == b with
    | true => rw [e] at h; cases h; have := beq_iff_eq.mp e; subst this; exact List.mem_cons_self
    | false => rw [e] at h; exact List.mem_cons_of_mem _ (memLk h)
theorem bt_len : bootBuiltins "len" = some (.builtin "len") := by decide +kernel
theorem bt_min : bootBuiltins "min" = some (.builtin "min") := by decide +kernel
theorem bt_max : bootBuiltins "max" = some (.builtin "max") := by decide +kernel
theorem bt_sum : bootBuiltins "sum" = some (.builtin "sum") := by decide +kernel
theorem bt_all : bootBuiltins "all" = some (.builtin "all") := by decide +kernel
theorem bt_divmod : bootBuiltins "divmod" = some (.builtin "divmod") := by decide +kernel
theorem bt_repr : bootBuiltins "repr" = some (.builtin "repr") := by decide +kernel
theorem bt_int : bootBuiltins "int" = some (.type "int") := by decide +kernel
theorem bt_str : bootBuiltins "str" = some (.type "str") := by decide +kernel
theorem bt_bool : bootBuiltins "bool" = some (.type "bool") := by decide +kernel
theorem bt_list : bootBuiltins "list" = some (.type "list") := by decide +kernel
theorem bt_tuple : bootBuiltins "tuple" = some (.type "tuple") := by decide +kernel
theorem bt_dict : bootBuiltins "dict" = some (.type "dict") := by decide +kernel
def tTru (f : Sl → Cm D) : Sl → Cm Bool := fun sl => cTru (f sl)
theorem kwLen_0 {sl : Sl} {μ μ2 : Mu} {ds : List D} (h : aNil sl μ = some (.ok ds, μ2)) : ds.length = 0 := by cases h; rfl
theorem aCons_len {n : Nat} {f : Sl → Cm D} {g : Sl → Cm (List D)} (hg : ∀ sl μ ds μ2, g sl μ = some (.ok ds, μ2) → ds.length = n) {sl : Sl} {μ μ2 : Mu} {ds : List D} (h : aCons f g sl μ = some (.ok ds, μ2)) : ds.length = n + 1 := by
  rcases bind_inv h with ⟨d, μ3, h1, h2⟩ | ⟨x, μ3, h1, h2⟩
  · rcases bind_inv h2 with ⟨es, μ4, h3, h4⟩ | ⟨x, μ4, h3, h4⟩
    · cases h4; rw [List.length_cons, hg _ _ _ _ h3]
    · cases h4
  · cases h2
theorem kwLen_1 {f : Sl → Cm D} {sl : Sl} {μ μ2 : Mu} {ds : List D} (h : aCons f aNil sl μ = some (.ok ds, μ2)) : ds.length = 1 := aCons_len (fun _ _ _ _ h => kwLen_0 h) h
theorem kwLen_2 {f f2 : Sl → Cm D} {sl : Sl} {μ μ2 : Mu} {ds : List D} (h : aCons f (aCons f2 aNil) sl μ = some (.ok ds, μ2)) : ds.length = 2 := aCons_len (fun _ _ _ _ h => kwLen_1 h) h
theorem kwLen_3 {f f2 f3 : Sl → Cm D} {sl : Sl} {μ μ2 : Mu} {ds : List D} (h : aCons f (aCons f2 (aCons f3 aNil)) sl μ = some (.ok ds, μ2)) : ds.length = 3 := aCons_len (fun _ _ _ _ h => kwLen_2 h) h
theorem kwLen_4 {f f2 f3 f4 : Sl → Cm D} {sl : Sl} {μ μ2 : Mu} {ds : List D} (h : aCons f (aCons f2 (aCons f3 (aCons f4 aNil))) sl μ = some (.ok ds, μ2)) : ds.length = 4 := aCons_len (fun _ _ _ _ h => kwLen_3 h) h
def eIsi2 (T1 T2 : String) (f : Sl → Cm D) : Sl → Cm D := eUn (oIsiT [T1, T2]) f
section
variable {X : Cx} {tb : Addr → Prop} {W : WX} {pos : Pos}
theorem de_globI {x : Str} {i : Int} {t : Tok} (hg : Gl X x) (hm : X.mg x = some (.int i t)) (hd : (x == ("__debug__" : Str)) = false := by decide) : DE X tb W (.Name x pos) (eK (.int i)) := de_glob (v := .int i) hg hm ⟨t, rfl⟩ (fun _ _ => .int i) hd
theorem de_isi2 {x y : Str} {e : Expr} {f : Sl → Cm D} {T1 T2 : String} {p p2 p3 p4 : Pos} {k : Nat} (hg : Gl X "isinstance") (hm : X.mg "isinstance" = none) (hgT : Gl X x) (hmT : X.mg x = none) (hvT : bootBuiltins x = some (.type T1)) (hgU : Gl X y) (hmU : X.mg y = none) (hvU : bootBuiltins y = some (.type T2)) (he : DE X tb W e f)
    (hn : x ≠ "__name__" := by decide) (hd : (x == ("__debug__" : Str)) = false := by decide) (hn2 : y ≠ "__name__" := by decide) (hd2 : (y == ("__debug__" : Str)) = false := by decide)
    (hs : starEach [e, .Tuple [.Name x p2, .Name y p3] k p4] X.env = (false, eval e X.env) :: starEach [.Tuple [.Name x p2, .Name y p3] k p4] X.env := by rfl) (hs2 : starEach [.Tuple [.Name x p2, .Name y p3] k p4] X.env = (false, eval (.Tuple [.Name x p2, .Name y p3] k p4) X.env) :: starEach [] X.env := by rfl)
    (hs3 : starEach [.Name x p2, .Name y p3] X.env = (false, eval (.Name x p2) X.env) :: starEach [.Name y p3] X.env := by rfl) (hs4 : starEach [.Name y p3] X.env = (false, eval (.Name y p3) X.env) :: starEach [] X.env := by rfl)
    (hpl : (backTo pos (starEach [.Tuple [.Name x p2, .Name y p3] k p4] X.env)).any (·.1) = false := by rfl) :
    DE X tb W (.Call (.Name "isinstance" p) [e, .Tuple [.Name x p2, .Name y p3] k p4] [] pos) (eIsi2 T1 T2 f) :=
  (pe_callB (x := "isinstance") call_isiT hg hm PyProof.Rows.Boot.«isinstance» (pa_cons he (pa_cons (pe_tup (pa_cons (pe_ty hgT hmT hvT hn hd) (pa_cons (pe_ty hgU hmU hvU hn2 hd2) pa_nil hs4) hs3)) pa_nil hs2) hs) (by decide) (by decide) hs hpl).imp fun σ H Q ⟨sl, ρ, hs, hc⟩ => ⟨sl, ρ, hs, (Cfg.bind (Rq := rV X.K) hc).imp fun v H1 ⟨ρ1, d, r, xx, kk, c⟩ => by
    obtain ⟨μ, d', hm, e, c⟩ := Cfg.look (f := fun μ => (tyD μ d).bind fun t => (kitBs t [T1, T2]).map D.bl) c
    refine ⟨by show 2 ≤ sizeLine; decide, fun q hq => ?_⟩
    cases e1 : tyD μ d with
    | none => rw [e1] at e; cases e
    | some t =>
      rw [e1] at e
      have e : (kitBs t [T1, T2]).map D.bl = some d' := e
      cases e2 : kitBs t [T1, T2] with
      | none => rw [e2] at e; cases e
      | some b =>
        rw [e2] at e
        cases e
        obtain ⟨μ3, hm3, he3⟩ := c.okA
        have s : Step (gx X tb) ρ1 H1 ρ1 (upd H1 q (.tup [.ty T1, .ty T2])) μ3 := Step.all hm3 (upd_all hq)
        have ty : TyX X.K (upd H1 q (.tup [.ty T1, .ty T2])) v (.type t) := by
          have s2 : Step (gx X tb) ρ1 H1 ρ1 (upd H1 q (.tup [.ty T1, .ty T2])) μ := Step.all hm (upd_all hq)
          exact ty_rep s2.mu (DRep.step s2.ext s2.keep _ _ r) e1
        exact ⟨v, q, [.ty T1, .ty T2], _, [.type T1, .type T2], b, rfl, upd_same, .cons (.ty T1) (.cons (.ty T2) .nil), ty, kitBs_any e2, he3 _ _ ρ1 s (.bl b)⟩⟩
end
end DL

namespace DL
open PySem PySem.Spec PyProof.Rows L2 GxR
/-! ## while -/
def wLoop (c : Sl → Cm Bool) (b : Sl → CS) : Nat → Sl → CS
  | 0, _ => fun _ => none
  | n + 1, sl => fun μ => match c sl μ with
    | none => none
    | some (.ex x, μ1) => some (.ex x sl, μ1)
    | some (.ok k, μ1) => if k = true then (match b sl μ1 with
      | none => none
      | some (.nx sl2, μ2) => wLoop c b n sl2 μ2
      | some (.ct sl2, μ2) => wLoop c b n sl2 μ2
      | some (.bk sl2, μ2) => some (.nx sl2, μ2)
      | some (.rt d, μ2) => some (.rt d, μ2)
      | some (.ex x sl2, μ2) => some (.ex x sl2, μ2)) else some (.nx sl, μ1)
theorem wLoop_succ {c : Sl → Cm Bool} {b : Sl → CS} : ∀ (n : Nat) (sl : Sl) (μ : Mu) (r : SR × Mu), wLoop c b n sl μ = some r → wLoop c b (n + 1) sl μ = some r
  | 0, _, _, _, h => by cases h
  | n + 1, sl, μ, r, h => by
    unfold wLoop at h ⊢
    cases e : c sl μ with
    | none => rw [e] at h; cases h
    | some p =>
      obtain ⟨q, μ1⟩ := p
      rw [e] at h
      cases q with
      | ex x => exact h
      | ok k =>
        simp only at h ⊢
        by_cases hk : k = true
        · rw [if_pos hk] at h ⊢
          cases eb : b sl μ1 with
          | none => rw [eb] at h; cases h
          | some p2 =>
            obtain ⟨rb, μ2⟩ := p2
            rw [eb] at h
            cases rb with
            | nx sl2 => exact wLoop_succ n sl2 μ2 r h
            | ct sl2 => exact wLoop_succ n sl2 μ2 r h
            | bk sl2 => exact h
            | rt d => exact h
            | ex x sl2 => exact h
        · rw [if_neg hk] at h ⊢
          exact h
theorem wLoop_le {c : Sl → Cm Bool} {b : Sl → CS} {n m : Nat} {sl : Sl} {μ : Mu} {r : SR × Mu} (h : wLoop c b n sl μ = some r) (hm : n ≤ m) : wLoop c b m sl μ = some r := by
  induction hm with
  | refl => exact h
  | step _ ih => exact wLoop_succ _ _ _ _ ih
open Classical in
noncomputable def sWhile (c : Sl → Cm Bool) (b : Sl → CS) : Sl → CS := fun sl μ => if h : ∃ r n, wLoop c b n sl μ = some r then some h.choose else none
theorem sWhile_iff {c : Sl → Cm Bool} {b : Sl → CS} {sl : Sl} {μ : Mu} {r : SR × Mu} : sWhile c b sl μ = some r ↔ ∃ n, wLoop c b n sl μ = some r := by
  unfold sWhile
  constructor
  · intro h
    by_cases hx : ∃ r n, wLoop c b n sl μ = some r
    · rw [dif_pos hx] at h
      cases h
      exact hx.choose_spec
    · rw [dif_neg hx] at h; cases h
  · rintro ⟨n, h⟩
    have hx : ∃ r n, wLoop c b n sl μ = some r := ⟨r, n, h⟩
    rw [dif_pos hx]
    obtain ⟨m, hm⟩ := hx.choose_spec
    have h1 := wLoop_le h (Nat.le_max_left n m)
    have h2 := wLoop_le hm (Nat.le_max_right n m)
    rw [h1] at h2
    exact h2.symm
theorem ds_while {X : Cx} {tb : Addr → Prop} {W : WX} {pos : Pos} {c : Expr} {body : List Stmt} {fc : Sl → Cm Bool} {f : Sl → CS} (hp : PassesOwn (model X.prog X.w) X.A X.env X.xe) (hc : DT X tb W c fc) (hb : DSs X tb W body f) : DS X tb W (.While c body [] pos) (sWhile fc f) :=
  (ps_while hp hc hb).imp fun De σ H ⟨sl, ρ, hs, μ, r, μ', hm, hcc, he⟩ => by
    obtain ⟨n, hn⟩ := sWhile_iff.mp hcc
    refine ⟨fun m σ' H' => ∃ ρ' sl' μ1, MuRep (gx X tb) H' ρ' μ1 ∧ StRep X.K H' ρ' σ' sl' ∧ wLoop fc f m sl' μ1 = some (r, μ') ∧ EndS (gx X tb) W ρ' H' μ' De r, ⟨n, ρ, sl, μ, hm, hs, hn, he⟩, ?_⟩
    rintro m σ1 H1 ⟨ρ1, sl1, μ1, hm1, hs1, hw, he1⟩
    cases m with
    | zero => cases hw
    | succ m =>
      refine ⟨sl1, ρ1, hs1, ?_⟩
      unfold wLoop at hw
      cases e : fc sl1 μ1 with
      | none => rw [e] at hw; cases hw
      | some p =>
        obtain ⟨q, μ2⟩ := p
        rw [e] at hw
        cases q with
        | ex x =>
          simp only [Option.some.injEq, Prod.mk.injEq] at hw
          obtain ⟨rfl, rfl⟩ := hw
          exact ⟨μ1, .ex x, μ2, hm1, e, fun cls dd H' ρ' st r' => he1 cls dd σ1 H' ρ' st (hs1.step st.ext st.keep) r'⟩
        | ok k =>
          refine ⟨μ1, .ok k, μ2, hm1, e, fun v H' ρ' st rr => ?_⟩
          have ev : v = k := rr
          subst ev
          simp only at hw
          dsimp only
          by_cases hk : v = true
          · rw [if_pos hk] at hw
            rw [if_pos hk]
            refine ⟨fun σ2 H2 => ∃ ρ2 sl2 μ3, MuRep (gx X tb) H2 ρ2 μ3 ∧ StRep X.K H2 ρ2 σ2 sl2 ∧ wLoop fc f m sl2 μ3 = some (r, μ') ∧ EndS (gx X tb) W ρ2 H2 μ' De r, fun σ2 H2 h => ⟨m, Nat.lt_succ_self m, h⟩, ?_⟩
            refine ⟨sl1, ρ', hs1.step st.ext st.keep, ?_⟩
            cases eb : f sl1 μ2 with
            | none => rw [eb] at hw; cases hw
            | some q =>
              obtain ⟨rb, μ3⟩ := q
              rw [eb] at hw
              cases rb with
              | nx sl2 => exact ⟨μ2, .nx sl2, μ3, st.mu, eb, fun σ5 H5 ρ5 st5 hs5 => ⟨ρ5, sl2, μ3, st5.mu, hs5, hw, he1.step (st.trans st5)⟩⟩
              | ct sl2 => exact ⟨μ2, .ct sl2, μ3, st.mu, eb, fun σ5 H5 ρ5 st5 hs5 => ⟨ρ5, sl2, μ3, st5.mu, hs5, hw, he1.step (st.trans st5)⟩⟩
              | bk sl2 =>
                simp only [Option.some.injEq, Prod.mk.injEq] at hw
                obtain ⟨rfl, rfl⟩ := hw
                exact ⟨μ2, .bk sl2, μ3, st.mu, eb, fun σ5 H5 ρ5 st5 hs5 => he1 σ5 H5 ρ5 (st.trans st5) hs5⟩
              | rt d2 =>
                simp only [Option.some.injEq, Prod.mk.injEq] at hw
                obtain ⟨rfl, rfl⟩ := hw
                exact ⟨μ2, .rt d2, μ3, st.mu, eb, fun v H5 ρ5 st5 r5 => he1 v H5 ρ5 (st.trans st5) r5⟩
              | ex x2 sl2 =>
                simp only [Option.some.injEq, Prod.mk.injEq] at hw
                obtain ⟨rfl, rfl⟩ := hw
                exact ⟨μ2, .ex x2 sl2, μ3, st.mu, eb, fun cls dd σ5 H5 ρ5 st5 hs5 x5 => he1 cls dd σ5 H5 ρ5 (st.trans st5) hs5 x5⟩
          · rw [if_neg hk] at hw
            rw [if_neg hk]
            simp only [Option.some.injEq, Prod.mk.injEq] at hw
            obtain ⟨rfl, rfl⟩ := hw
            exact he1 σ1 H' ρ' st (hs1.step st.ext st.keep)
/-! ## texts: strip -/
def oStrip : D → List D → Cm D
  | .str a, [.str b] => if a.length ≤ sizeLine then Cm.ok (.str (Txt.stripChars a b)) else Cm.fail
  | _, _ => Cm.fail
theorem sem_strip {G : Gx} : SemM G oStrip (fun x xs H Q => ∃ a b, x = .str a ∧ xs = [.str b] ∧ a.length ≤ sizeLine ∧ Q (.str (Txt.stripChars a b)) H) := by
  intro W ρ H x dx xs ds Q rx rs c
  unfold oStrip at c
  split at c
  · rename_i a b
    obtain ⟨w, rfl, rw'⟩ := reps1 rs
    cases rw'; cases rx
    by_cases hl : a.length ≤ sizeLine
    · rw [if_pos hl] at c
      exact ⟨_, _, rfl, rfl, hl, c.ok _ (.str _)⟩
    · rw [if_neg hl] at c; exact c.fails.elim
  · exact c.fails.elim
/-! ## is True, is not True -/
def rIsBX : R2 := fun x y H Q => ∃ b : Bool, y = .bl b ∧ Q (.bl (decide (x = .bl b))) H
def rNotBX : R2 := fun x y H Q => ∃ b : Bool, y = .bl b ∧ Q (.bl (!decide (x = .bl b))) H
theorem plain_bl {x : V} {v : Value} (r : RelV x v) (b : Bool) : plainIs v (.bool b) = true ∧ (v == Value.bool b) = decide (x = .bl b) := by
  have key : ∀ w : Value, plainIs w (.bool b) = true → (w = Value.bool b ↔ x = .bl b) → v = w → plainIs v (.bool b) = true ∧ (v == Value.bool b) = decide (x = .bl b) := by
    intro w h1 h2 h3
    subst h3
    refine ⟨h1, ?_⟩
    by_cases h : v = Value.bool b
    · rw [decide_eq_true (h2.mp h), h]; exact beq_self_eq_true _
    · rw [decide_eq_false (fun z => h (h2.mpr z))]; exact beq_eq_false_iff_ne.mpr h
  cases x with
  | non => exact key .none rfl ⟨(fun z => by cases z), (fun z => by cases z)⟩ r
  | bl c => exact key (.bool c) rfl ⟨(fun z => by cases z; rfl), (fun z => by cases z; rfl)⟩ r
  | int i => obtain ⟨t, h⟩ := r; exact key (.int i t) rfl ⟨(fun z => by cases z), (fun z => by cases z)⟩ h
  | str i => obtain ⟨t, h⟩ := r; exact key (.str i t) rfl ⟨(fun z => by cases z), (fun z => by cases z)⟩ h
  | byt i => obtain ⟨t, h⟩ := r; exact key (.bytes i t) rfl ⟨(fun z => by cases z), (fun z => by cases z)⟩ h
  | flt i => obtain ⟨t, h⟩ := r; exact key (.float i t) rfl ⟨(fun z => by cases z), (fun z => by cases z)⟩ h
  | ref a => exact key (.ref a) rfl ⟨(fun z => by cases z), (fun z => by cases z)⟩ r
  | ty n => exact key (.type n) rfl ⟨(fun z => by cases z), (fun z => by cases z)⟩ r
theorem op_isBX {X : Cx} : OpR X (compareOp .Is) rIsBX := by
  intro pins s σ H x y v u Q I rx ry h
  obtain ⟨b, rfl, q⟩ := h
  cases (show u = Value.bool b from ry)
  obtain ⟨h1, h2⟩ := plain_bl rx b
  exact wpAny_is_plain h1 ⟨.bl _, H, I, rfl, by rw [h2]; exact q⟩
theorem op_notBX {X : Cx} : OpR X (compareOp .IsNot) rNotBX := by
  intro pins s σ H x y v u Q I rx ry h
  obtain ⟨b, rfl, q⟩ := h
  cases (show u = Value.bool b from ry)
  obtain ⟨h1, h2⟩ := plain_bl rx b
  exact wpAny_isNot_plain h1 ⟨.bl _, H, I, rfl, by rw [h2]; exact q⟩
def isBl (b : Bool) : D → Bool
  | .bl c => c == b
  | _ => false
theorem isBl_rep {K : PySem.W.Frag} {H : Hp} {ρ : Rho} {v : V} {d : D} (b : Bool) (r : DRep K H ρ v d) : decide (v = .bl b) = isBl b d := by
  cases r <;> first | rfl | skip
  rename_i c
  show decide (V.bl c = V.bl b) = (c == b)
  cases c <;> cases b <;> rfl
def oIsB (x y : D) : Cm D := match y with | .bl b => Cm.ok (.bl (isBl b x)) | _ => Cm.fail
def oNotB (x y : D) : Cm D := match y with | .bl b => Cm.ok (.bl (!isBl b x)) | _ => Cm.fail
theorem sem_isB {G : Gx} : Sem2 G oIsB rIsBX := by
  intro W ρ H x y dx dy Q rx ry c
  cases dy with
  | bl b => cases ry; exact ⟨b, rfl, by rw [isBl_rep b rx]; exact Cfg.ok (d := D.bl (isBl b dx)) c _ (DRep.bl _)⟩
  | _ => exact c.fails.elim
theorem sem_notB {G : Gx} : Sem2 G oNotB rNotBX := by
  intro W ρ H x y dx dy Q rx ry c
  cases dy with
  | bl b => cases ry; exact ⟨b, rfl, by rw [isBl_rep b rx]; exact Cfg.ok (d := D.bl (!isBl b dx)) c _ (DRep.bl _)⟩
  | _ => exact c.fails.elim
end DL

namespace DL
open PySem PySem.Spec PyProof.Rows L2 GxR
/-! ## own classes: instances that live -/
theorem resv_liveO {G : Gx} {H : Hp} {ρ : Rho} {μ : Mu} {p : Addr} {rs : List Addr} {mo : MO} (m : MuRep G H ρ μ) (hin : p ∈ ρ.rs) (hs : ∀ a, a ∈ rs → a ∈ ρ.rs) (h : MORep G.K G.mg H ρ p mo) (hp : p ∉ rs) :
    MuRep G H ((ρ.cut rs).add p) (μ ++ [some mo]) ∧ DRep G.K H ((ρ.cut rs).add p) (.ref p) (.mref μ.length) := by
  have hl : ρ.hs.length = μ.length := m.len
  have np : NotHd ρ p := (m.res p hin).2
  refine ⟨⟨by simp [Rho.add, Rho.cut, hl], fun i mo' e => ?_, fun i a e => ?_, fun i j a e1 e2 => ?_, fun a ha => ?_, m.tb⟩, .mref (by simp [Rho.add, Rho.cut, hl]) fun a' e => ?_⟩
  · by_cases hi : i < μ.length
    · rw [List.getElem?_append_left hi] at e
      obtain ⟨a, e1, e2⟩ := m.at_ i mo' e
      exact ⟨a, by show (ρ.hs ++ [some p])[i]? = _; rw [List.getElem?_append_left (by rw [hl]; exact hi)]; exact e1, MORep.shift (shift_add hs hin) e2⟩
    · rw [List.getElem?_append_right (Nat.le_of_not_lt hi)] at e
      have : i - μ.length = 0 := by
        have := (List.getElem?_eq_some_iff.mp e).1
        simp at this
        omega
      rw [this] at e
      simp at e
      subst e
      refine ⟨p, ?_, MORep.shift (shift_add hs hin) h⟩
      have hi' : i = ρ.hs.length := by omega
      show (ρ.hs ++ [some p])[i]? = _
      rw [hi', List.getElem?_append_right (Nat.le_refl _)]
      simp
  · rcases add_at e with q | ⟨q1, q2⟩
    · obtain ⟨mo', e1⟩ := m.dead i a q
      exact ⟨mo', by rw [List.getElem?_append_left (List.getElem?_eq_some_iff.mp e1).1]; exact e1⟩
    · refine ⟨mo, ?_⟩
      have q1 : i = ρ.hs.length := q1
      rw [q1, hl, List.getElem?_append_right (Nat.le_refl _)]
      simp
  · rcases add_at e1 with q | ⟨q1, q2⟩
    · rcases add_at e2 with q' | ⟨q1', q2'⟩
      · exact m.inj i j a q q'
      · rw [q2'] at q; exact absurd q (np i)
    · rcases add_at e2 with q' | ⟨q1', q2'⟩
      · rw [q2] at q'; exact absurd q' (np j)
      · omega
  · have ha : a ∈ rs := ha
    obtain ⟨h1, h2⟩ := m.res a (hs a ha)
    refine ⟨h1, fun i e => ?_⟩
    rcases add_at e with q | ⟨_, q⟩
    · exact h2 i q
    · rw [q] at ha; exact hp ha
  · have e : (ρ.hs ++ [some p])[μ.length]? = some (some a') := e
    rw [← hl, List.getElem?_append_right (Nat.le_refl _)] at e
    simp at e
    exact e.symm
theorem new_ins {G : Gx} {H : Hp} {ρ : Rho} {μ : Mu} {c : Str} {C x dx : Addr} (m : MuRep G H ρ μ) (hC : G.mg c = some (.ref C)) (hx : H x = none) (hd : H dx = none) (hne : dx ≠ x) :
    Step G ρ H (ρ.add x) (upd (upd H dx (.own x)) x (.ins C dx [])) (μ ++ [some (.ins c [])]) ∧ DRep G.K (upd (upd H dx (.own x)) x (.ins C dx [])) (ρ.add x) (.ref x) (.mref μ.length) := by
  have s1 : Step G ρ H ρ (upd H dx (.own x)) μ := Step.all m (upd_all hd)
  have hx1 : upd H dx (.own x) x = none := by rw [upd_ne (fun e => hne e.symm)]; exact hx
  have s := resv_new (o := .ins C dx []) s1.mu hx1
  obtain ⟨m2, q⟩ := resv_liveO (rs := ρ.rs) (mo := .ins c []) s.mu List.mem_cons_self (fun a ha => List.mem_cons_of_mem _ ha) ⟨C, dx, [], hC, upd_same, rfl, .nil⟩ (m.fresh hx).2
  refine ⟨⟨⟨by simp [Rho.add], fun i a e => ?_, fun a e => .inl e, fun a e => e⟩, s1.keep.trans s1.ext s.keep, m2⟩, q⟩
  rcases add_at e with q | ⟨q1, q2⟩
  · exact .inl q
  · exact .inr ⟨by omega, by rw [q2]; exact hx⟩
theorem mut_updO {G : Gx} {H : Hp} {ρ : Rho} {μ : Mu} {p : Addr} {h : Nat} {o0 o : HO} {mo : MO} (m : MuRep G H ρ μ) (hp : ρ.hs[h]? = some (some p)) (hx : H p = some o0) (ht : ∀ ps, o0 ≠ .tbl ps) (r : MORep G.K G.mg (upd H p o) ρ p mo) :
    Step G ρ H ρ (upd H p o) (μ.set h (some mo)) := by
  have hlt : h < μ.length := by rw [← m.len]; exact (List.getElem?_eq_some_iff.mp hp).1
  refine ⟨.refl _ _, ⟨fun b o e n t => by rw [upd_ne (n.ne hp)]; exact e, fun b o e => ?_⟩, ⟨by rw [List.length_set]; exact m.len, fun i mo' e => ?_, fun i a e => ?_, m.inj, fun a ha => ?_, fun P hP => ?_⟩⟩
  · by_cases hb : b = p
    · exact ⟨_, by rw [hb]; exact upd_same⟩
    · exact ⟨o, by rw [upd_ne hb]; exact e⟩
  · by_cases hi : h = i
    · subst hi
      rw [List.getElem?_set_self hlt] at e
      cases e
      exact ⟨p, hp, r⟩
    · rw [List.getElem?_set_ne hi] at e
      obtain ⟨a, e1, e2⟩ := m.at_ i mo' e
      have ne : a ≠ p := fun z => hi (m.inj h i p hp (by rw [← z]; exact e1))
      refine ⟨a, e1, ?_⟩
      cases mo' with
      | lst ds => obtain ⟨vs, h1, h2⟩ := e2; exact ⟨vs, by rw [upd_ne ne]; exact h1, DReps.updm hp ds vs h2⟩
      | ins c fs => obtain ⟨C, dx, vs, h0, h1, h2, h3⟩ := e2; exact ⟨C, dx, vs, h0, by rw [upd_ne ne]; exact h1, h2, DReps.updm hp _ vs h3⟩
      | dic ks ds => obtain ⟨vs, h1, h2, h3⟩ := e2; exact ⟨vs, by rw [upd_ne ne]; exact h1, h2, DReps.updm hp ds vs h3⟩
      | dit ks ds => obtain ⟨vs, h1, h2, h3⟩ := e2; exact ⟨vs, by rw [upd_ne ne]; exact h1, h2, DReps.updm hp ds vs h3⟩
  · by_cases hi : h = i
    · subst hi; exact ⟨_, List.getElem?_set_self hlt⟩
    · obtain ⟨mo', e1⟩ := m.dead i a e
      exact ⟨mo', by rw [List.getElem?_set_ne hi]; exact e1⟩
  · obtain ⟨⟨o, h1⟩, h2⟩ := m.res a ha
    exact ⟨⟨o, by rw [upd_ne (h2.ne hp)]; exact h1⟩, h2⟩
  · obtain ⟨ps, h1, h2⟩ := m.tb P hP
    exact ⟨ps, by rw [upd_ne (ne_of h1 hx (fun z => ht _ z.symm))]; exact h1, h2⟩
/-! ### fields -/
def putD (f : Str) (d : D) : List (Str × D) → List (Str × D)
  | [] => [(f, d)]
  | (g, x) :: r => if g = f then (g, d) :: r else (g, x) :: putD f d r
theorem look_rep {K : PySem.W.Frag} {H : Hp} {ρ : Rho} {f : Str} : ∀ {fs : List (Str × D)} {vs : List V}, DReps K H ρ vs (fs.map (·.2)) → ∀ {d : D}, fs.lookup f = some d → ∃ v, ((fs.map (·.1)).zip vs).lookup f = some v ∧ DRep K H ρ v d
  | [], _, _, _, e => by cases e
  | (g, x) :: r, _, .cons (v := v) a b, d, e => by
    rw [List.lookup_cons] at e
    show ∃ v', List.lookup f ((g, v) :: ((r.map (·.1)).zip _)) = some v' ∧ _
    rw [List.lookup_cons]
    cases h : f == g with
    | true => rw [h] at e; cases e; exact ⟨v, rfl, a⟩
    | false => rw [h] at e; exact look_rep b e
theorem look_none {f : Str} : ∀ {fs : List (Str × D)} {vs : List V}, fs.lookup f = none → ((fs.map (·.1)).zip vs).lookup f = none
  | [], _, _ => rfl
  | (g, x) :: r, [], _ => rfl
  | (g, x) :: r, v :: vs, e => by
    rw [List.lookup_cons] at e
    show List.lookup f ((g, v) :: ((r.map (·.1)).zip vs)) = none
    rw [List.lookup_cons]
    cases h : f == g with
    | true => rw [h] at e; cases e
    | false => rw [h] at e; exact look_none e
theorem put_rep {K : PySem.W.Frag} {H : Hp} {ρ : Rho} {f : Str} {v : V} {d : D} (q : DRep K H ρ v d) : ∀ {fs : List (Str × D)} {vs : List V}, DReps K H ρ vs (fs.map (·.2)) → ∃ ws, putF f v ((fs.map (·.1)).zip vs) = ((putD f d fs).map (·.1)).zip ws ∧ ws.length = (putD f d fs).length ∧ DReps K H ρ ws ((putD f d fs).map (·.2))
  | [], _, .nil => ⟨[v], rfl, rfl, .cons q .nil⟩
  | (g, x) :: r, _, .cons (v := w) (vs := ws) a b => by
    show ∃ us, (if g = f then (g, v) :: ((r.map (·.1)).zip ws) else (g, w) :: putF f v ((r.map (·.1)).zip ws)) = _ ∧ _
    unfold putD
    by_cases h : g = f
    · rw [if_pos h, if_pos h]
      have := b.length
      exact ⟨v :: ws, rfl, by simpa using this, .cons q b⟩
    · rw [if_neg h, if_neg h]
      obtain ⟨us, e1, e2, e3⟩ := put_rep q b
      exact ⟨w :: us, by rw [e1]; rfl, by simp [e2], .cons a e3⟩
def insD (c : Str) (μ : Mu) : D → Option (List (Str × D))
  | .mref h => match μ[h]? with
    | some (some (.ins c' fs)) => if c' = c then some fs else none
    | _ => none
  | _ => none
theorem insD_at {c : Str} {μ : Mu} {d : D} {fs : List (Str × D)} (e : insD c μ d = some fs) : ∃ h, d = .mref h ∧ μ[h]? = some (some (.ins c fs)) := by
  cases d with
  | mref h =>
    have e : (match μ[h]? with | some (some (.ins c' fs)) => if c' = c then some fs else none | _ => none) = some fs := e
    cases q : μ[h]? with
    | none => rw [q] at e; cases e
    | some o =>
      cases o with
      | none => rw [q] at e; cases e
      | some mo =>
        cases mo with
        | lst ds => rw [q] at e; cases e
        | dic ks ds => rw [q] at e; cases e
        | dit ks ds => rw [q] at e; cases e
        | ins c' gs =>
          rw [q] at e
          simp only at e
          by_cases h1 : c' = c
          · rw [if_pos h1] at e; cases e; subst h1; exact ⟨h, rfl, q⟩
          · rw [if_neg h1] at e; cases e
  | _ => cases e
theorem insD_of {c : Str} {μ : Mu} {h : Nat} {fs : List (Str × D)} (e : μ[h]? = some (some (.ins c fs))) : insD c μ (.mref h) = some fs := by
  show (match μ[h]? with | some (some (.ins c' fs)) => if c' = c then some fs else none | _ => none) = some fs
  rw [e]
  exact if_pos rfl
theorem MuRep.insD {G : Gx} {H : Hp} {ρ : Rho} {μ : Mu} (m : MuRep G H ρ μ) {c : Str} {v : V} {d : D} {fs : List (Str × D)} (r : DRep G.K H ρ v d) (e : insD c μ d = some fs) :
    ∃ h a C dx vs, d = .mref h ∧ v = .ref a ∧ ρ.hs[h]? = some (some a) ∧ G.mg c = some (.ref C) ∧ H a = some (.ins C dx ((fs.map (·.1)).zip vs)) ∧ vs.length = fs.length ∧ DReps G.K H ρ vs (fs.map (·.2)) := by
  obtain ⟨h, rfl, e1⟩ := insD_at e
  obtain ⟨a, e2, C, dx, vs, h0, h1, h2, h3⟩ := m.at_ h _ e1
  cases r with
  | mref r1 r2 =>
    have := r2 a e2
    subst this
    exact ⟨h, _, C, dx, vs, rfl, rfl, e2, h0, h1, h2, h3⟩
def oFld (c f : Str) (x : D) : Cm D := Cm.look fun μ => (insD c μ x).bind fun fs => fs.lookup f
def oSetFld (c f : Str) (o v : D) : Cm D := fun μ => match o with
  | .mref h => match insD c μ (.mref h) with
    | some fs => if fs.length < 999 then some (.ok .non, μ.set h (some (.ins c (putD f v fs)))) else none
    | none => none
  | _ => none
theorem oSetFld_inv {c f : Str} {o v : D} {μ μ' : Mu} {r : R D} (e : oSetFld c f o v μ = some (r, μ')) : ∃ h fs, o = .mref h ∧ insD c μ (.mref h) = some fs ∧ fs.length < 999 ∧ r = .ok .non ∧ μ' = μ.set h (some (.ins c (putD f v fs))) := by
  unfold oSetFld at e
  cases o with
  | mref h =>
    simp only at e
    cases q : insD c μ (.mref h) with
    | none => rw [q] at e; cases e
    | some fs =>
      rw [q] at e
      simp only at e
      by_cases hl : fs.length < 999
      · rw [if_pos hl] at e; cases e; exact ⟨h, fs, rfl, q, hl, rfl, rfl⟩
      · rw [if_neg hl] at e; cases e
  | _ => cases e
/-- what the class is -/
structure ClsF (K : PySem.W.Frag) (mg : Str → Option Value) (c : Str) (C : Addr) : Prop where
  cl : Cls K C
  mgC : mg c = some (.ref C)
section
variable {X : Cx} {tb : Addr → Prop} {W : WX} {pos : Pos}
theorem ClsF.same {K : PySem.W.Frag} {mg : Str → Option Value} {c : Str} {C C' : Addr} (k : ClsF K mg c C) (h : mg c = some (.ref C')) : C' = C := by
  have := k.mgC.symm.trans h
  cases this; rfl
theorem de_fld {c f : Str} {C : Addr} {e : Expr} {fo : Sl → Cm D} (k : ClsF X.K X.mg c C) (na : NoAttr X.K C f) (he : DE X tb W e fo) (hb : attributeBase e f X.env (eval e X.env) = eval e X.env := by rfl) : DE X tb W (.Attribute e f pos) (eUn (oFld c f) fo) :=
  (pe_fld he hb).imp fun σ H Q ⟨sl, ρ, hs, hc⟩ => ⟨sl, ρ, hs, (Cfg.bind (Rq := rV X.K) hc).imp fun v H1 ⟨ρ1, d, r, x, kk, cc⟩ => by
    obtain ⟨μ, d', hm, e, cc2⟩ := Cfg.look (f := fun μ => (insD c μ d).bind fun fs => fs.lookup f) cc
    cases e1 : insD c μ d with
    | none => rw [e1] at e; cases e
    | some fs =>
      rw [e1] at e
      have e : fs.lookup f = some d' := e
      obtain ⟨h, a, C', dx, vs, rfl, rfl, g1, g2, g3, g4, g5⟩ := hm.insD r e1
      have := k.same g2
      subst this
      obtain ⟨v, h1, h2⟩ := look_rep g5 e
      exact ⟨a, C', dx, _, v, rfl, g3, k.cl, na, h1, cc2.ok v h2⟩⟩
theorem set_fld {G : Gx} {H : Hp} {ρ : Rho} {μ : Mu} {c f : Str} {C dx a : Addr} {h : Nat} {fs : List (Str × D)} {vs : List V} {v : V} {d : D} (m : MuRep G H ρ μ) (g1 : ρ.hs[h]? = some (some a)) (g2 : G.mg c = some (.ref C)) (g3 : H a = some (.ins C dx ((fs.map (·.1)).zip vs))) (g5 : DReps G.K H ρ vs (fs.map (·.2))) (q : DRep G.K H ρ v d) :
    Step G ρ H ρ (upd H a (.ins C dx (putF f v ((fs.map (·.1)).zip vs)))) (μ.set h (some (.ins c (putD f d fs)))) := by
  obtain ⟨ws, e1, e2, e3⟩ := put_rep (f := f) q g5
  exact mut_updO m g1 g3 (fun ps z => by cases z) ⟨C, dx, ws, g2, by rw [e1]; exact upd_same, e2, DReps.updm g1 _ ws e3⟩
def sSetFld (c f : Str) (fe fo : Sl → Cm D) : Sl → CS := sExp (fun sl => (fe sl).bind fun v => (fo sl).bind fun o => oSetFld c f o v) fun _ sl => sNx sl
theorem ds_setFld {c f : Str} {C : Addr} {o e : Expr} {fe fo : Sl → Cm D} {pos' : Pos} (k : ClsF X.K X.mg c C) (na : NoAttr X.K C f) (he : DE X tb W e fe) (ho : DE X tb W o fo) (hs : swapsWith e (some (.Attribute o f pos')) pos.line X.env = pure false := by rfl) : DS X tb W (.Assign [.Attribute o f pos'] e pos) (sSetFld c f fe fo) :=
  (ps_fld ho he hs).imp fun De σ H h => by
    obtain ⟨sl0, ρ0, h1, h2⟩ := rdS.exp (Rq := rV X.K) h
    refine ⟨sl0, ρ0, h1, (Cfg.bind (Rq := rV X.K) h2).imp fun v H1 ⟨ρ1, d, rv, x1, k1, c1⟩ => ?_⟩
    refine ⟨sl0, ρ1, h1.step x1 k1, (Cfg.bind (Rq := rV X.K) c1).imp fun ov H2 ⟨ρ2, od, ro, x2, k2, c2⟩ => ?_⟩
    have rv2 := DRep.step x2 k2 _ _ rv
    obtain ⟨μ, q, μ', hm, hc, hE⟩ := c2
    obtain ⟨h, fs, rfl, e1, hl, rfl, rfl⟩ := oSetFld_inv hc
    obtain ⟨h', a, C', dx, vs, eh, rfl, g1, g2, g3, g4, g5⟩ := hm.insD ro e1
    cases eh
    have := k.same g2
    subst this
    refine ⟨a, C', dx, _, rfl, g3, k.cl, na, ?_, ?_⟩
    · rw [List.length_zip, List.length_map, g4]; omega
    · obtain ⟨sl, ρ4, d4, hs4, _, c4⟩ := hE .non _ ρ2 (set_fld (f := f) hm g1 g2 g3 g5 rv2) .non
      exact c4.nx hs4
/-- o.f op= e -/
def sAugFld (c f : Str) (g : Int → Int → Int) (fo fe : Sl → Cm D) : Sl → CS := sExp (fun sl => (fo sl).bind fun o => (oFld c f o).bind fun x => (fe sl).bind fun y => (oI2 (fun _ _ => True) (fun a b => .int (g a b)) x y).bind fun z => oSetFld c f o z) fun _ sl => sNx sl
theorem ds_augFld {c f : Str} {C : Addr} {o e : Expr} {op : Operator} {g : Int → Int → Int} {fe fo : Sl → Cm D} {pos' : Pos} (k : ClsF X.K X.mg c C) (na : NoAttr X.K C f) (hop : InOp X op (fun x y H Q => ∃ i j, x = .int i ∧ y = .int j ∧ Q (.int (g i j)) H)) (ho : DE X tb W o fo) (he : DE X tb W e fe) : DS X tb W (.AugAssign (.Attribute o f pos') op e pos) (sAugFld c f g fo fe) :=
  (ps_fldaug ho he hop).imp fun De σ H h => by
    obtain ⟨sl0, ρ0, h1, h2⟩ := rdS.exp (Rq := rV X.K) h
    refine ⟨sl0, ρ0, h1, (Cfg.bind (Rq := rV X.K) h2).imp fun ov H1 ⟨ρ1, od, ro, x1, k1, c1⟩ => ?_⟩
    obtain ⟨μ, d', hm, e, c1⟩ : ∃ μ d', MuRep (gx X tb) H1 ρ1 μ ∧ ((insD c μ od).bind fun fs => fs.lookup f) = some d' ∧ Cfg (gx X tb) (rV X.K) (fun c d H' => W c d σ H') ρ1 H1 ((fe sl0).bind fun y => (oI2 (fun _ _ => True) (fun a b => .int (g a b)) d' y).bind fun z => oSetFld c f od z) (fun v H1 => ∃ sl ρ1 d, StRep X.K H1 ρ1 σ sl ∧ rV X.K H1 ρ1 v d ∧ CfgS (gx X tb) W De ρ1 H1 (sNx sl)) := by
      obtain ⟨μ, q, μ', hm, hc, hE⟩ := c1
      rcases bind_inv hc with ⟨x, μ1, g1, g2⟩ | ⟨x, μ1, g1, g2⟩
      · obtain ⟨a, e1, e2, rfl⟩ := look_inv g1
        cases e2
        exact ⟨_, x, hm, e1, _, q, μ', hm, g2, hE⟩
      · obtain ⟨a, e1, e2, _⟩ := look_inv g1
        cases e2
    cases e1 : insD c μ od with
    | none => rw [e1] at e; cases e
    | some fs =>
      rw [e1] at e
      have e : fs.lookup f = some d' := e
      obtain ⟨h, a, C', dx, vs, rfl, rfl, g1, g2, g3, g4, g5⟩ := hm.insD ro e1
      have := k.same g2
      subst this
      obtain ⟨v, hv1, hv2⟩ := look_rep g5 e
      refine ⟨a, C', dx, _, v, rfl, g3, k.cl, na, hv1, sl0, ρ1, h1.step x1 k1, (Cfg.bind (Rq := rV X.K) c1).imp fun y H2 ⟨ρ2, dy, ry, x2, k2, c2⟩ => ?_⟩
      have hv2' := DRep.step x2 k2 _ _ hv2
      have ro2 := DRep.step x2 k2 _ _ ro
      obtain ⟨μ2, q, μ', hm2, hc, hE⟩ := c2
      rcases bind_inv hc with ⟨z, μ3, q1, q2⟩ | ⟨z, μ3, q1, q2⟩
      · unfold oI2 at q1
        split at q1
        · rename_i i j
          rw [if_pos trivial] at q1
          cases q1
          obtain ⟨h', fs', eh, ee, hl, rfl, rfl⟩ := oSetFld_inv q2
          cases eh
          obtain ⟨h', a', C2, dx', vs', eh, ea, g1', g2', g3', g4', g5'⟩ := hm2.insD ro2 ee
          cases eh; cases ea
          have := k.same g2'
          subst this
          cases hv2'; cases ry
          refine ⟨_, _, rfl, rfl, dx', _, g3', ?_, ?_⟩
          · rw [List.length_zip, List.length_map, g4']; omega
          · obtain ⟨sl, ρ4, d4, hs4, _, c4⟩ := hE .non _ ρ2 (set_fld (f := f) hm2 g1' g2' g3' g5' (.int _)) .non
            exact c4.nx hs4
        · cases q1
      · unfold oI2 at q1
        split at q1
        · rw [if_pos trivial] at q1; cases q1
        · cases q1
/-! ### methods -/
def ckI (c m : Str) (μ : Mu) (d : D) : Bool := match insD c μ d with
  | some fs => (fs.lookup m).isNone
  | none => false
def eMeth (c m : Str) (n : Nat) (den : List D → Cm D) (fo : Sl → Cm D) (fs : Sl → Cm (List D)) : Sl → Cm D := fun sl => (fo sl).bind fun x => (Cm.look fun μ => if ckI c m μ x = true then some x else none).bind fun x => (fs sl).bind fun ys => oCall n den (x :: ys)
theorem rd_meth {k n : Nat} {f C : Addr} {fd : FuncData} {ps : List Str} {den : List D → Cm D} {c m : Str} {fo : Sl → Cm D} {fs : Sl → Cm (List D)} (kc : ClsF X.K X.mg c C) {σ : L2.St} {H : Hp} {Q : VK} (h : rd (gx X tb) (rV X.K) W (eMeth c m n den fo fs) σ H Q) :
    rd (gx X tb) (rV X.K) W fo σ H fun x H1 => ∃ a dx gs, x = .ref a ∧ H1 a = some (.ins C dx gs) ∧ gs.lookup m = none ∧ rd (gx X tb) (rVs X.K) W fs σ H1 fun vs H2 => spD (gx X tb) n den (x :: vs) H2 Q (WE W σ) := by
  obtain ⟨sl, ρ, hs, hc⟩ := h
  refine ⟨sl, ρ, hs, (Cfg.bind (Rq := rV X.K) hc).imp fun v H1 ⟨ρ1, d, rv, x1, k1, c1⟩ => ?_⟩
  have look : ∃ μ, MuRep (gx X tb) H1 ρ1 μ ∧ ckI c m μ d = true ∧ Cfg (gx X tb) (rV X.K) (fun c d H' => W c d σ H') ρ1 H1 ((fs sl).bind fun ys => oCall n den (d :: ys)) Q := by
    obtain ⟨μ, q, μ', hm, hc, he⟩ := c1
    rcases bind_inv hc with ⟨x, μ1, h1, h2⟩ | ⟨x, μ1, h1, h2⟩
    · obtain ⟨a, e1, e2, rfl⟩ := look_inv h1
      cases e2
      by_cases hk : ckI c m μ1 d = true
      · rw [if_pos hk] at e1; cases e1
        exact ⟨_, hm, hk, _, q, μ', hm, h2, he⟩
      · rw [if_neg hk] at e1; cases e1
    · obtain ⟨a, e1, e2, _⟩ := look_inv h1
      cases e2
  obtain ⟨μ, hm, hk, c2⟩ := look
  unfold ckI at hk
  cases e1 : insD c μ d with
  | none => rw [e1] at hk; cases hk
  | some gs =>
    rw [e1] at hk
    have hk : gs.lookup m = none := by simpa using hk
    obtain ⟨h, a, C', dx, vs, rfl, rfl, g1, g2, g3, g4, g5⟩ := hm.insD rv e1
    have := kc.same g2
    subst this
    refine ⟨a, dx, _, rfl, g3, look_none hk, sl, ρ1, hs.step x1 k1, (Cfg.bind (Rq := rVs X.K) c2).imp fun vs H2 ⟨ρ2, ds, rs, x2, k2, c3⟩ => ?_⟩
    unfold oCall at c3
    by_cases hl : (D.mref h :: ds).length = n
    · rw [if_pos hl] at c3
      exact ⟨ρ2, .mref h :: ds, .cons (DRep.step x2 k2 _ _ rv) rs, hl, c3⟩
    · rw [if_neg hl] at c3; exact c3.fails.elim
section
variable {k n : Nat} {f C : Addr} {fd : FuncData} {ps : List Str} {den : List D → Cm D} {c m : Str} {o : Expr} {apos : Pos} {fo : Sl → Cm D} {fs : Sl → Cm (List D)}
/-- o.m(e, ..) -/
theorem de_meth {pl : Sem Bool} {e : Expr} {es : List Expr} (kc : ClsF X.K X.mg c C) (hm : Meth X.K C m f) (F : FnG X.prog X.w X.K X.mg X.base k f fd ps (spD (gx X tb) n den)) (hb : Binds X.K fd ps []) (hr : Room k X.A) (hG : NoG X.A) (tk : Takes X W) (he : DE X tb W o fo) (ha : DA X tb W (e :: es) fs)
    (hst : starEach (e :: es) X.env = (false, eval e X.env) :: starEach es X.env := by rfl) (hpl : (backTo pos (starEach es X.env)).any (·.1) = false := by rfl)
    (ht : eval (.Call (.Attribute o m apos) (e :: es) [] pos) X.env = (do
      let ov ← eval o X.env
      standAt apos.atName
      let (f, first) ← holding [ov] (getMethod ov m pl)
      callWith pos f first (backTo pos (starEach (e :: es) X.env)) (backToKw pos (keywordEach [] X.env))) := by rfl) : DE X tb W (.Call (.Attribute o m apos) (e :: es) [] pos) (eMeth c m n den fo fs) := by
  refine ⟨fun pins s σ H Q I h => ?_⟩
  refine PySem.W.methodCall_KW (pl := pl) (thn (he.run pins s σ H _ I (rd_meth (m := m) (k := k) (f := f) (fd := fd) (ps := ps) kc h)) fun u s1 ⟨x, H1, I1, rx, a, dx, gs, ex, ea, l, q⟩ => ?_) ht
  subst ex
  obtain rfl : u = Value.ref a := rx
  refine getmeth_ok I1 ea kc.cl hm l ?_
  refine PySem.W.callWith_K (first := [.ref a]) (h₀ := X.base) I.ok.mod.kin hm.kp (thn (ha.run pos pins s1 σ H1 _ I1 q) fun us s2 ⟨vs, H2, I2, r, q2⟩ => ⟨I2.kIn, ?_⟩) hst hpl
  refine run_g (us := .ref a :: us) (vs := .ref a :: vs) F hr hG (fun s' hs' => ⟨_, ?_, rfl⟩) (passAt tk σ) I2 (.cons rfl r) q2
  have hl : ((Value.ref a :: us) ++ []).length = ps.length := by
    rw [List.append_nil]
    have := F.len _ _ _ _ q2
    rw [← this]
    show us.length + 1 = vs.length + 1
    rw [r.length]
  have := hb s' (.ref a :: us) hs' hl
  rw [List.append_nil] at this
  exact this
/-- o.m() -/
theorem de_meth0 {pl : Sem Bool} (kc : ClsF X.K X.mg c C) (hm : Meth X.K C m f) (F : FnG X.prog X.w X.K X.mg X.base k f fd ps (spD (gx X tb) n den)) (hb : Binds X.K fd ps []) (hr : Room k X.A) (hG : NoG X.A) (tk : Takes X W) (he : DE X tb W o fo)
    (ht : eval (.Call (.Attribute o m apos) [] [] pos) X.env = (do
      let ov ← eval o X.env
      standAt apos.atName
      let (f, first) ← holding [ov] (getMethod ov m pl)
      callWith pos f first (backTo pos (starEach [] X.env)) (backToKw pos (keywordEach [] X.env))) := by rfl) : DE X tb W (.Call (.Attribute o m apos) [] [] pos) (eMeth c m n den fo aNil) := by
  refine ⟨fun pins s σ H Q I h => ?_⟩
  refine PySem.W.methodCall_KW (pl := pl) (thn (he.run pins s σ H _ I (rd_meth (m := m) (k := k) (f := f) (fd := fd) (ps := ps) kc h)) fun u s1 ⟨x, H1, I1, rx, a, dx, gs, ex, ea, l, q⟩ => ?_) ht
  subst ex
  obtain rfl : u = Value.ref a := rx
  refine getmeth_ok I1 ea kc.cl hm l ?_
  have q2 : spD (gx X tb) n den [.ref a] H1 Q (WE W σ) := by
    obtain ⟨sl, ρ, hs, hc⟩ := q
    exact Cfg.ok hc [] .nil
  refine PySem.W.callWith_K0 (first := [.ref a]) I1.kIn hm.kp (run_g (us := [.ref a]) (vs := [.ref a]) F hr hG (fun s' hs' => ⟨_, ?_, rfl⟩) (passAt tk σ) I1 (.cons rfl .nil) q2)
  have hl : ([Value.ref a] ++ []).length = ps.length := by
    have := F.len _ _ _ _ q2
    rw [← this]; rfl
  have := hb s' [.ref a] hs' hl
  rw [List.append_nil] at this
  exact this
/-! ### C(e, ..) -/
def oMake (c : Str) (n : Nat) (den : List D → Cm D) (ds : List D) : Cm D := fun μ => match oCall n den (.mref μ.length :: ds) (μ ++ [some (.ins c [])]) with
  | some (.ok .non, μ') => some (.ok (.mref μ.length), μ')
  | some (.ex x, μ') => some (.ex x, μ')
  | _ => none
theorem make_sp {H : Hp} {ρ : Rho} {vs : List V} {ds : List D} {Q : VK} {E : XK} (kc : ClsF X.K X.mg c C) (rs : DReps X.K H ρ vs ds) (h : Cfg (gx X tb) (rV X.K) (fun c d H' => E c d H') ρ H (oMake c n den ds) Q) :
    ∀ x dx, H x = none → H dx = none → dx ≠ x → spD (gx X tb) n den (.ref x :: vs) (upd (upd H dx (.own x)) x (.ins C dx [])) (fun v H2 => v = .non ∧ Q (.ref x) H2) E := fun x dx hx hd hne => by
  obtain ⟨μ, r, μ', hm, hc, he⟩ := h
  obtain ⟨st, dr⟩ := new_ins (G := gx X tb) hm kc.mgC hx hd hne
  unfold oMake at hc
  cases e : oCall n den (.mref μ.length :: ds) (μ ++ [some (.ins c [])]) with
  | none => rw [e] at hc; cases hc
  | some p =>
    obtain ⟨r0, μ1⟩ := p
    rw [e] at hc
    unfold oCall at e
    by_cases hl : (D.mref μ.length :: ds).length = n
    · rw [if_pos hl] at e
      refine ⟨ρ.add x, .mref μ.length :: ds, .cons dr (DReps.step st.ext st.keep _ _ rs), hl, μ ++ [some (.ins c [])], r0, μ1, st.mu, e, ?_⟩
      cases r0 with
      | ok d =>
        cases d with
        | non =>
          cases hc
          exact fun v H2 ρ2 st2 r2 => ⟨by cases r2; rfl, he (.ref x) H2 ρ2 (st.trans st2) (DRep.step st2.ext st2.keep _ _ dr)⟩
        | _ => cases hc
      | ex y =>
        cases hc
        exact fun cls dd H2 ρ2 st2 x2 => he cls dd H2 ρ2 (st.trans st2) x2
    · rw [if_neg hl] at e; cases e
theorem run_makeG {pins : List (Addr × Obj)} {σ : L2.St} {H : Hp} {s : Shared} {Q : VK} {us : List Value} {vs : List V} {sp : Sp} {E : XK} (M : Mk X.K C f) (F : FnG X.prog X.w X.K X.mg X.base k f fd ps sp) (hr : Room (k + 1) X.A) (hG : NoG X.A) (hb : Binds X.K fd ps [])
    (hx : PassesAt (L2.CX X.prog X.w) X σ E) (I : Inv X pins σ H s) (r : Vals vs us)
    (h : ∀ x dx, H x = none → H dx = none → dx ≠ x → sp (.ref x :: vs) (upd (upd H dx (.own x)) x (.ins C dx [])) (fun v H2 => v = .non ∧ Q (.ref x) H2) E) :
    wpAny (model X.prog X.w) X.A (call (.ref C) us) (EP X pins σ Q) X.xe s := by
  have hq := h (s.heap.objs.size + 1) s.heap.objs.size (I.hok.fresh (Nat.le_succ _)) (I.hok.fresh (Nat.le_refl _)) (Nat.ne_of_lt (Nat.lt_succ_self _))
  have I2 := Inv.made (C := C) I
  have r2 : Vals (V.ref (s.heap.objs.size + 1) :: vs) (Value.ref (s.heap.objs.size + 1) :: us) := .cons rfl r
  have hl : ((Value.ref (s.heap.objs.size + 1) :: us) ++ []).length = ps.length := by
    have e := r2.length
    rw [F.len _ _ _ _ hq] at e
    rw [List.append_nil]
    exact e.symm
  have hbb := hb _ (Value.ref (s.heap.objs.size + 1) :: us) I2.kIn hl
  rw [List.append_nil] at hbb
  refine wpAny_call (make_map (f := f) I.kIn M.makes M.init (beq_iff_eq.mp M.fn) (codeAny_mono (F.run _ X.stack _ _ ⟨Value.ref (s.heap.objs.size + 1) :: us, []⟩ (Value.ref (s.heap.objs.size + 1) :: us) _ _ E (hr.make C us []) hG
    (I2.env0.make C us []) hbb r2 hq) fun r s' hq' => ?_))
  cases r with
  | error e => exact hx pins _ _ e s' I2 hq'
  | ok fl =>
    cases fl with
    | ret u =>
      obtain ⟨v, H', I3, rv, ev, q3⟩ := I2.after hq'
      subst ev
      exact ⟨rv, ⟨V.ref (s.heap.objs.size + 1), H', I3, rfl, q3⟩⟩
    | next => exact False.elim hq'
    | brk => exact False.elim hq'
    | cont => exact False.elim hq'
theorem de_make {p : Pos} {e : Expr} {es : List Expr} (kc : ClsF X.K X.mg c C) (M : Mk X.K C f) (F : FnG X.prog X.w X.K X.mg X.base k f fd ps (spD (gx X tb) n den)) (hb : Binds X.K fd ps []) (hr : Room (k + 1) X.A) (hG : NoG X.A) (tk : Takes X W) (hg : Gl X c) (ha : DA X tb W (e :: es) fs)
    (hdb : (c == ("__debug__" : Str)) = false := by decide) (he : starEach (e :: es) X.env = (false, eval e X.env) :: starEach es X.env := by rfl) (hpl : (backTo pos (starEach es X.env)).any (·.1) = false := by rfl) :
    DE X tb W (.Call (.Name c p) (e :: es) [] pos) (eCB (oMake c n den) fs) := by
  refine ⟨fun pins s σ H Q I h => ?_⟩
  have h2 : rd (gx X tb) (rVs X.K) W fs σ H fun vs H1 => ∀ x dx, H1 x = none → H1 dx = none → dx ≠ x → spD (gx X tb) n den (.ref x :: vs) (upd (upd H1 dx (.own x)) x (.ins C dx [])) (fun v H2 => v = .non ∧ Q (.ref x) H2) (WE W σ) := by
    obtain ⟨sl, ρ, hs, hc⟩ := h
    exact ⟨sl, ρ, hs, (Cfg.bind (Rq := rVs X.K) hc).imp fun vs H1 ⟨ρ1, ds, rs, x, kk, c⟩ => make_sp kc rs c⟩
  refine wpAny_Call_Name_kw (ld_glob I hg kc.mgC ?_ hdb)
  refine PySem.W.callWith_K (h₀ := X.base) I.ok.mod.kin M.kp (thn (ha.run pos pins s σ H _ I h2) fun us s1 ⟨vs, H1, I1, r, q⟩ => ⟨I1.kIn, ?_⟩) he hpl
  exact run_makeG M F hr hG hb (passAt tk σ) I1 r q
end
end
end DL

namespace DL
open PySem PySem.Spec PyProof.Rows L2 GxR RT
/-! ## reversed(xs), walked -/
theorem guard_items {μ : Mu} {d : D} {p : List D × List (Nat × List D)} (e : itemsD μ d = some p) : Guard p.2 μ := by
  cases d with
  | mref h =>
    have e : (dL μ (.mref h)).map (fun xs => (xs, [(h, xs)])) = some p := e
    cases q : dL μ (.mref h) with
    | none => rw [q] at e; cases e
    | some xs =>
      rw [q] at e
      cases e
      intro r hr
      rw [List.mem_singleton.mp hr]
      exact mref_l q
  | str z => cases e; exact guard_nil _
  | tup z => cases e; exact guard_nil _
  | lst z => cases e; exact guard_nil _
  | _ => cases e
def revItems (μ : Mu) : D → Option (List D × List (Nat × List D))
  | .str _ => none
  | d => (itemsD μ d).map fun p => (p.1.reverse, p.2)
theorem revItems_of {μ : Mu} {d : D} {p : List D × List (Nat × List D)} (e : revItems μ d = some p) : (∀ z, d ≠ .str z) ∧ ∃ q, itemsD μ d = some q ∧ p = (q.1.reverse, q.2) := by
  have gen : ∀ d, (∀ z, d ≠ .str z) → (itemsD μ d).map (fun p => (p.1.reverse, p.2)) = some p → (∀ z, d ≠ .str z) ∧ ∃ q, itemsD μ d = some q ∧ p = (q.1.reverse, q.2) := fun d hd e => by
    cases q : itemsD μ d with
    | none => rw [q] at e; cases e
    | some q0 => rw [q] at e; cases e; exact ⟨hd, q0, rfl, rfl⟩
  cases d with
  | str z => cases e
  | _ => exact gen _ (fun z h => by cases h) e
def iRev (f : Sl → Cm D) : Sl → Cm (List D × List (Nat × List D)) := fun sl => (f sl).bind fun d => Cm.look fun μ => revItems μ d
theorem rev_get {α : Type} {l : List α} {i : Nat} {d : α} (h : l.reverse[i]? = some d) : i < l.length ∧ l[l.length - 1 - i]? = some d := by
  have hl := (List.getElem?_eq_some_iff.mp h).1
  rw [List.length_reverse] at hl
  rw [List.getElem?_reverse hl] at h
  exact ⟨hl, h⟩
theorem walk_rl {G : Gx} {H : Hp} {ρ : Rho} {a : Addr} {n : Nat} {items : List D} {gs : List (Nat × List D)} (hn : n = items.length) (s : StandD G H ρ (.l a) items gs) : WalkD G H ρ (Itv G.K a n) items.reverse gs := fun H2 ρ2 μ2 st g => by
  obtain ⟨vs, h1, r1⟩ := s H2 ρ2 μ2 st g
  have h1 : SqL G.K H2 a vs := h1
  have hl := r1.length
  subst hn
  refine ⟨fun i hi => ?_, fun i hi => ?_, fun i d hd x H3 y => ?_⟩
  · rw [List.length_reverse] at hi
    exact ⟨hi, vs, vs[items.length - 1 - i]'(by omega), h1, List.getElem?_eq_getElem _⟩
  · rw [List.length_reverse] at hi
    show items.length ≤ i
    omega
  · obtain ⟨rfl, y⟩ := y
    obtain ⟨hi, hd⟩ := rev_get hd
    obtain ⟨v, h2, r2⟩ := r1.get hd
    have := y vs h1
    rw [h2] at this
    cases this
    exact ⟨.refl st.mu, r2⟩
theorem walk_rt {G : Gx} {H : Hp} {ρ : Rho} {a : Addr} {n : Nat} {items : List D} {gs : List (Nat × List D)} (hn : n = items.length) (s : StandD G H ρ (.t a) items gs) : WalkD G H ρ (ItvT G.K a n) items.reverse gs := fun H2 ρ2 μ2 st g => by
  obtain ⟨vs, h1, r1⟩ := s H2 ρ2 μ2 st g
  have h1 : SqT G.K H2 a vs := h1
  have hl := r1.length
  subst hn
  refine ⟨fun i hi => ?_, fun i hi => ?_, fun i d hd x H3 y => ?_⟩
  · rw [List.length_reverse] at hi
    exact ⟨hi, vs, vs[items.length - 1 - i]'(by omega), h1, List.getElem?_eq_getElem _⟩
  · rw [List.length_reverse] at hi
    show items.length ≤ i
    omega
  · obtain ⟨rfl, y⟩ := y
    obtain ⟨hi, hd⟩ := rev_get hd
    obtain ⟨v, h2, r2⟩ := r1.get hd
    have := y vs h1
    rw [h2] at this
    cases this
    exact ⟨.refl st.mu, r2⟩
section
variable {X : Cx} {tb : Addr → Prop} {W : WX} {pos : Pos}
theorem di_rev {tg e : Expr} {f : Sl → Cm D} {p : Pos} (hg : Gl X "reversed") (hm : X.mg "reversed" = none) (he : DE X tb W e f) (hs : starEach [e] X.env = (false, eval e X.env) :: starEach [] X.env := by rfl) : DI X tb W tg (.Call (.Name "reversed" p) [e] [] pos) (iRev f) :=
  (pi_revA hg hm he hs).imp fun σ H R ⟨sl, ρ, hs, hc⟩ => ⟨sl, ρ, hs, (Cfg.bind (Rq := rV X.K) hc).imp fun v H1 ⟨ρ1, d, r, x, k, c⟩ => by
    obtain ⟨μ, p, hm, e, c⟩ := Cfg.look (f := fun μ => revItems μ d) c
    obtain ⟨hd, q, e1, rfl⟩ := revItems_of e
    obtain ⟨kk, hk, sd⟩ := stand_of (G := gx X tb) r (show itemsD μ d = some (q.1, q.2) from e1) hm
    obtain ⟨vs, h1, rs⟩ := sd H1 ρ1 μ (.refl hm) (guard_items e1)
    have hl := rs.length
    cases kk with
    | s z =>
      exfalso
      have hk : V.str z = v := hk
      subst hk
      have r : DRep X.K H1 ρ1 (.str z) d := r
      cases r
      exact hd _ rfl
    | l a =>
      have hk : V.ref a = v := hk
      subst hk
      exact ⟨a, vs, rfl, .inl ⟨h1, Cfg.ok (d := (q.1.reverse, q.2)) c _ (walk_rl hl sd)⟩⟩
    | t a =>
      have hk : V.ref a = v := hk
      subst hk
      exact ⟨a, vs, rfl, .inr ⟨h1, Cfg.ok (d := (q.1.reverse, q.2)) c _ (walk_rt hl sd)⟩⟩⟩
/-! ## x[::-1], of a text, of a list -/
def revS (z : Str) : Str := ⟨z.cps.toList.reverse.toArray⟩
theorem slice_rev (z : Str) (t : Tok) : (Builtin.Str.strSliceIndices none none (-1) z.length).filterMap (z.cps[·]?) = z.cps.toList.reverse := by
  have e : Builtin.Str.strSliceIndices none none (-1) z.length = sliceRange ((z.length : Int) - 1) (-1) (-1) := rfl
  rw [e, PySem.W.krv_sliceRange, PySem.W.krv_range, List.filterMap_reverse]
  have := PySem.W.krv_all z.cps
  show ((List.range z.cps.size).filterMap (z.cps[·]?)).reverse = _
  rw [this]
def tRevA (K : PySem.W.Frag) (te : TE) : TE := fun σ H Q => te σ H fun x H1 => (∃ a xs, x = .ref a ∧ SqL K H1 a xs ∧ ∀ p, H1 p = none → Q (.ref p) (upd H1 p (.lst xs.reverse))) ∨ (∃ z : Str, x = .str z ∧ z.length ≤ sizeLine ∧ Q (.str (revS z)) H1) ∨ (∃ a xs, x = .ref a ∧ SqT K H1 a xs ∧ ∀ p ob, H1 p = none → Obj.dict ob = none → Q (.ref p) (upd H1 p (.frz ob (.tup xs.reverse))))
theorem pe_revA {e : Expr} {te : TE} {k : Nat} {p1 p2 p3 : Pos} (he : PE X e te) : PE X (.Subscript e (.Slice none none (some (.UnaryOp .USub (.Constant (.int 1) k p1) p2)) p3) pos) (tRevA X.K te) := by
  refine ⟨fun pins s σ H Q I h => ?_⟩
  refine Subscript_ (thn (he.run pins s σ H _ I h) fun v s1 ⟨x, H1, I1, r1, q1⟩ => ?_)
  have hst : PO X (some (.UnaryOp .USub (.Constant (.int 1) k p1) p2)) (tPart (tUn (rU fun i => .int (-i)) (tC (.int 1)))) := po_some (pe_un un_neg pe_int)
  refine wpAny_Slice (thn (po_none.run pins s1 σ H1 (fun o H2 => o = none ∧ H2 = H1) I1 ⟨rfl, rfl⟩) fun vl s2 ⟨l, H2, I2, pl, el, e2⟩ => ?_)
  subst el e2
  refine thn (po_none.run pins s2 σ H2 (fun o H3 => o = none ∧ H3 = H2) I2 ⟨rfl, rfl⟩) fun vu s3 ⟨u, H3, I3, pu, eu, e3⟩ => ?_
  subst eu e3
  refine thn (hst.run pins s3 σ H3 (fun o H4 => o = some (-1) ∧ H4 = H3) I3 ⟨1, rfl, -1, rfl, rfl, rfl⟩) fun vs s4 ⟨o, H4, I4, ps, eo, e4⟩ => ?_
  subst eo e4
  have I5 : Inv X pins σ H4 { s4 with heap := s4.heap.push { cls := .type "slice", data := .fields #[vl, vu, vs] } } := I4.kept (t' := s4.toks) fun b ob q => Heap.get?_push_of_some _ q
  rcases q1 with ⟨a, xs, ex, hx, q⟩ | ⟨z, ex, hz, q⟩ | ⟨a, xs, ex, hx, q⟩
  · subst ex
    cases r1
    obtain ⟨its, r, ht, hz⟩ := I5.list hx
    have hlen := r.length
    show wpAny (model X.prog X.w) X.A (subscriptTail e (.Slice none none (some (.UnaryOp .USub (.Constant (.int 1) k p1) p2)) p3) (.ref a) (.ref s4.heap.objs.size)) (EP X pins σ Q) X.xe { s4 with heap := s4.heap.push { cls := .type "slice", data := .fields #[vl, vu, vs] } }
    refine tail_any (ops := [.ref a, .ref s4.heap.objs.size]) ht.isList.typeIs (PySem.slot_list_getitem.lookup) ?_ (by with_unfolding_all rfl)
    refine wpAny_getItem_list_slice ht.isList (Heap.IsSliceOf.new _ vl vu vs) pl pu ps (by decide) ?_ (by rw [List.size_toArray]; omega)
    rw [PySem.W.krv_pick]
    refine ⟨.ref _, _, I5.laid (t' := s4.toks) (o := .lst xs.reverse) (fun b ob q => Heap.get?_push_of_some _ q) (Nat.le_refl _) ?_, rfl, q _ (I5.hok.fresh (Nat.le_refl _))⟩
    exact ⟨by rw [List.length_reverse]; exact hz, _, 0, r.reverse, Heap.get?_push_size _ rfl⟩
  · subst ex
    obtain ⟨t, rfl⟩ := r1
    obtain ⟨l, rfl, hl⟩ := IsPart.raw pl
    obtain ⟨u, rfl, hu⟩ := IsPart.raw pu
    obtain ⟨st, rfl, hs⟩ := IsPart.raw ps
    show wpAny (model X.prog X.w) X.A (subscriptTail e (.Slice none none (some (.UnaryOp .USub (.Constant (.int 1) k p1) p2)) p3) (.str z t) (.ref s4.heap.objs.size)) (EP X pins σ Q) X.xe { s4 with heap := s4.heap.push { cls := .type "slice", data := .fields #[partValue l, partValue u, partValue st] } }
    refine tail_any (T := "str") (ops := [.str z t, .ref s4.heap.objs.size]) (typeIs_str _ _ _) (F.slot_str_getitem.lookup) ?_ (by with_unfolding_all rfl)
    refine wpAny_getItem_str_slice (l := l) (u := u) (st := st) ⟨_, Heap.get?_push_size _ rfl, rfl, rfl⟩ (by rw [hs]; rfl) ?_
    have e0 : sliceMade z t l u st = Made.str (revS z) := by
      unfold sliceMade slicePicked
      rw [hl, hu, hs]
      show (if ((-1 : Int) == 1 && _) = true then _ else _) = _
      rw [if_neg (by simp)]
      show Made.str ⟨((Builtin.Str.strSliceIndices none none (-1) z.length).filterMap (z.cps[·]?)).toArray⟩ = _
      rw [slice_rev z t]
      rfl
    rw [e0]
    refine ⟨?_, .str _, H4, I5.tok _, ⟨_, rfl⟩, q⟩
    show z.cps.toList.reverse.toArray.size ≤ sizeLine
    rw [List.size_toArray, List.length_reverse, Array.length_toList]
    exact hz
  · subst ex
    cases r1
    obtain ⟨its, r, ht, hz⟩ := I5.tuple hx
    have hlen := r.length
    show wpAny (model X.prog X.w) X.A (subscriptTail e (.Slice none none (some (.UnaryOp .USub (.Constant (.int 1) k p1) p2)) p3) (.ref a) (.ref s4.heap.objs.size)) (EP X pins σ Q) X.xe { s4 with heap := s4.heap.push { cls := .type "slice", data := .fields #[vl, vu, vs] } }
    refine tail_any (ops := [.ref a, .ref s4.heap.objs.size]) ht.typeIs (PyProof.Rows.slot_tuple_getitem.lookup) ?_ (by with_unfolding_all rfl)
    refine getItem_rev ht (Heap.IsSliceOf.new _ vl vu vs) pl pu ps ?_ (by rw [List.size_toArray]; omega)
    exact laidS I5 r.reverse (by rw [List.length_reverse]; exact hz) q
def oRev (x : D) : Cm D := match x with
  | .tup xs => Cm.ok (.tup xs.reverse)
  | .str z => if z.length ≤ sizeLine then Cm.ok (.str (revS z)) else Cm.fail
  | x => Cm.look fun μ => (dL μ x).map fun xs => .lst xs.reverse
theorem DReps.rev {K : PySem.W.Frag} {H : Hp} {ρ : Rho} : ∀ {vs : List V} {ds : List D}, DReps K H ρ vs ds → DReps K H ρ vs.reverse ds.reverse
  | _, _, .nil => .nil
  | _, _, .cons a r => by
    rw [List.reverse_cons, List.reverse_cons]
    exact (DReps.rev r).append (.cons a .nil)
theorem de_rev {e : Expr} {f : Sl → Cm D} {k : Nat} {p1 p2 p3 : Pos} (he : DE X tb W e f) : DE X tb W (.Subscript e (.Slice none none (some (.UnaryOp .USub (.Constant (.int 1) k p1) p2)) p3) pos) (eUn oRev f) :=
  (pe_revA he).imp fun σ H Q ⟨sl, ρ, hs, hc⟩ => ⟨sl, ρ, hs, (Cfg.bind (Rq := rV X.K) hc).imp fun v H1 ⟨ρ1, d, r, x, k, c⟩ => by
    have lst : ∀ d, DRep X.K H1 ρ1 v d → Cfg (gx X tb) (rV X.K) (fun c d H' => W c d σ H') ρ1 H1 (Cm.look fun μ => (dL μ d).map fun xs => D.lst xs.reverse) Q → (∃ a xs, v = .ref a ∧ SqL X.K H1 a xs ∧ ∀ p, H1 p = none → Q (.ref p) (upd H1 p (.lst xs.reverse))) ∨ (∃ z : Str, v = .str z ∧ z.length ≤ sizeLine ∧ Q (.str (revS z)) H1) ∨ (∃ a xs, v = .ref a ∧ SqT X.K H1 a xs ∧ ∀ p ob, H1 p = none → Obj.dict ob = none → Q (.ref p) (upd H1 p (.frz ob (.tup xs.reverse)))) := fun d r c => by
      obtain ⟨μ, d', hm, e, c⟩ := c.look
      cases e1 : dL μ d with
      | none => rw [e1] at e; cases e
      | some xs =>
        rw [e1] at e
        cases e
        obtain ⟨a, vs, rfl, h1, rs⟩ := hm.dL r e1
        exact .inl ⟨a, vs, rfl, Rd.seq h1, Cfg.newL c rs.rev⟩
    cases d with
    | str z =>
      cases r
      have c : Cfg (gx X tb) (rV X.K) (fun c d H' => W c d σ H') ρ1 H1 (if z.length ≤ sizeLine then Cm.ok (.str (revS z)) else Cm.fail) Q := c
      by_cases hl : z.length ≤ sizeLine
      · rw [if_pos hl] at c; exact .inr (.inl ⟨z, rfl, hl, c.ok _ (.str _)⟩)
      · rw [if_neg hl] at c; exact c.fails.elim
    | tup xs =>
      have c : Cfg (gx X tb) (rV X.K) (fun c d H' => W c d σ H') ρ1 H1 (Cm.ok (.tup xs.reverse)) Q := c
      cases r with
      | @tup a vs ds i rs => exact .inr (.inr ⟨a, vs, rfl, i.seq, Cfg.newT c rs.rev⟩)
    | _ => exact lst _ r c⟩
/-! ## a dict of texts that the top has written -/
def eDK (tbl : List (Str × Str)) (f : Sl → Cm D) : Sl → Cm D := fun sl => (f sl).bind fun d => match d with
  | .str z => Cm.lift ((tbl.lookup z).map .str)
  | _ => Cm.fail
theorem de_dk {x : Str} {a : Addr} {tbl : List (Str × Str)} {e : Expr} {f : Sl → Cm D} {p : Pos} (hg : Gl X x) (hm : X.mg x = some (.ref a)) (kk : ∀ z u, tbl.lookup z = some u → KDct X.K X.w a z (.str u)) (he : DE X tb W e f) (hs : PlainIx e := by exact fun _ _ => rfl) (hd : (x == ("__debug__" : Str)) = false := by decide) :
    DE X tb W (.Subscript (.Name x p) e pos) (eDK tbl f) :=
  (pe_ix ix_kdict (pe_glob (v := .ref a) hg hm rfl hd) he hs).imp fun σ H Q ⟨sl, ρ, hs, hc⟩ => ⟨sl, ρ, hs, (Cfg.bind (Rq := rV X.K) hc).imp fun v H1 ⟨ρ1, d, r, x, k, c⟩ => by
    cases d with
    | str z =>
      cases r
      obtain ⟨d', e, c⟩ := Cfg.lift c
      cases e1 : tbl.lookup z with
      | none => rw [e1] at e; cases e
      | some u => rw [e1] at e; cases e; exact ⟨a, z, .str u, rfl, rfl, kk z u e1, c.ok _ (.str _)⟩
    | _ => exact c.fails.elim⟩
/-! ## extend, clear, index -/
def rExtendR : V → List V → Hp → VK → Prop := fun x vs H Q => ∃ l b xs zs, x = .ref l ∧ vs = [.ref b] ∧ H l = some (.lst xs) ∧ Rd H b (.lst zs) ∧ xs.length + zs.length ≤ sizeLine ∧ Q .non (upd H l (.lst (xs ++ zs)))
theorem mt_extendR : MtR X "list.extend" rExtendR := by
  intro pins s σ H x vs v us Q I rx rv h
  obtain ⟨l, b, xs, zs, rfl, rfl, hH, hB, hz, q⟩ := h
  cases rx
  obtain ⟨u, rfl, ru⟩ := rv.one
  cases ru
  obtain ⟨z, its, n, r, hl, e⟩ := I.lstM hH
  obtain ⟨z2, its2, n2, r2, e2⟩ := hB.ok I.hok
  have hl2 := r2.length
  have hl1 := r.length
  have hsz : its.toArray.size + its2.toArray.size ≤ sizeLine := by rw [List.size_toArray, List.size_toArray]; omega
  have hlong : ¬ (!its.toArray.isEmpty && Builtin.List.listTooLong (its.toArray.size + its2.toArray.size)) = true := by
    rw [notLongL hsz, Bool.and_false]
    exact Bool.false_ne_true
  refine call_meets F.slot_list_extend ⟨_, e, rfl⟩ F.entry_list_extend (F.args_list_extend_2 _ _)
    (AutoSeq1.list_extend_list_list_0 l its.toArray n b its2.toArray n2 hlong (by simp only [List.size_toArray]; omega) (by simp only [List.size_toArray]; omega)) ⟨e, e2, ?_⟩
  refine ⟨.non, _, I.lset (its' := its ++ its2) hH e (by simp) (r.append r2) ?_, rfl, q⟩
  rw [List.length_append]
  omega
def oExtend : D → List D → Cm D
  | .mref h, [d] => (Cm.look fun μ => dL μ d).bind fun ys => oMu h fun xs => if xs.length + ys.length ≤ sizeLine then some (xs ++ ys, .non) else none
  | _, _ => Cm.fail
theorem sem_extend {G : Gx} : SemM G oExtend rExtendR := by
  intro W ρ H x dx xs ds Q rx rs c
  unfold oExtend at c
  split at c
  · rename_i h d
    obtain ⟨w, rfl, rw'⟩ := reps1 rs
    obtain ⟨μ, q, μ', hm, hc, he⟩ := c
    rcases bind_inv hc with ⟨zs, μ1, g1, g2⟩ | ⟨zz, μ1, g1, g2⟩
    · obtain ⟨ys, k1, k2, rfl⟩ := look_inv g1
      cases k2
      obtain ⟨us, ys', d, e1, e2, rfl, rfl⟩ := oMu_inv g2
      obtain ⟨a, vs, rfl, h1, h2, h3⟩ := hm.lst2 rx e1
      obtain ⟨b, ws, rfl, h4, h5⟩ := hm.dL rw' k1
      by_cases hl : us.length + zs.length ≤ sizeLine
      · rw [if_pos hl] at e2
        cases e2
        exact ⟨a, b, vs, ws, rfl, rfl, h2, h4, by rw [h3.length, h5.length]; exact hl, he _ _ ρ (mut_upd hm h1 h2 (h3.append h5)) .non⟩
      · rw [if_neg hl] at e2; cases e2
    · obtain ⟨ys, k1, k2, _⟩ := look_inv g1
      cases k2
  · exact c.fails.elim
def oClear : D → List D → Cm D
  | .mref h, [] => oMu h fun _ => some ([], .non)
  | _, _ => Cm.fail
theorem sem_clear {G : Gx} : SemM G oClear rClear := by
  intro W ρ H x dx xs ds Q rx rs c
  unfold oClear at c
  split at c
  · cases rs
    obtain ⟨μ, q, μ', hm, hc, he⟩ := c
    obtain ⟨zs, ys, d, e1, e2, rfl, rfl⟩ := oMu_inv hc
    obtain ⟨a, vs, rfl, h1, h2, h3⟩ := hm.lst2 rx e1
    cases e2
    exact ⟨a, vs, rfl, rfl, h2, he _ _ ρ (mut_upd hm h1 h2 .nil) .non⟩
  · exact c.fails.elim
def oPop : D → List D → Cm D
  | .mref h, [] => oMu h fun xs => (xs[xs.length - 1]?).map fun y => (xs.dropLast, y)
  | _, _ => Cm.fail
theorem sem_pop {G : Gx} : SemM G oPop rPop := by
  intro W ρ H x dx xs ds Q rx rs c
  unfold oPop at c
  split at c
  · cases rs
    obtain ⟨μ, q, μ', hm, hc, he⟩ := c
    obtain ⟨zs, ys, d, e1, e2, rfl, rfl⟩ := oMu_inv hc
    obtain ⟨a, vs, rfl, h1, h2, h3⟩ := hm.lst2 rx e1
    cases e4 : zs[zs.length - 1]? with
    | none => rw [e4] at e2; cases e2
    | some y =>
      rw [e4] at e2
      cases e2
      obtain ⟨v, e5, e6⟩ := h3.get e4
      have hd : DReps G.K H ρ vs.dropLast zs.dropLast := by
        rw [List.dropLast_eq_take, List.dropLast_eq_take, h3.length]
        exact h3.take _
      exact ⟨a, vs, v, rfl, rfl, h2, by rw [h3.length]; exact e5, he _ _ ρ (mut_upd hm h1 h2 hd) (DRep.updm h1 _ _ e6)⟩
  · exact c.fails.elim
def firstF (y : D) : List D → Option Nat
  | [] => none
  | d :: ds => if eqF d y = true then some 0 else (firstF y ds).map (· + 1)
theorem firstF_is {y : D} : ∀ {ds : List D} {j : Nat}, firstF y ds = some j → (∃ d, ds[j]? = some d ∧ eqF d y = true) ∧ ∀ (m : Nat) (d : D), m < j → ds[m]? = some d → eqF d y = false
  | [], _, e => by cases e
  | d :: ds, j, e => by
    unfold firstF at e
    by_cases h : eqF d y = true
    · rw [if_pos h] at e; cases e; exact ⟨⟨d, rfl, h⟩, fun m _ hm _ => absurd hm (Nat.not_lt_zero _)⟩
    · rw [if_neg h] at e
      cases q : firstF y ds with
      | none => rw [q] at e; cases e
      | some i =>
        rw [q] at e
        cases e
        obtain ⟨⟨d', h1, h2⟩, h3⟩ := firstF_is q
        refine ⟨⟨d', by simpa using h1, h2⟩, fun m d2 hm e2 => ?_⟩
        cases m with
        | zero => simp at e2; subst e2; simpa using h
        | succ m => exact h3 m d2 (Nat.lt_of_succ_lt_succ hm) (by simpa using e2)
def oIndex (x : D) (ds : List D) : Cm D := match ds with
  | [y] => Cm.look fun μ => (dL μ x).bind fun xs => if flD y = true ∧ xs.all flD = true then (firstF y xs).map fun j : Nat => D.int (j : Int) else none
  | _ => Cm.fail
theorem sem_index {G : Gx} : SemM G oIndex (rIndex G.K) := by
  intro W ρ H x dx xs ds Q rx rs c
  unfold oIndex at c
  split at c
  · rename_i y
    obtain ⟨w, rfl, rw'⟩ := reps1 rs
    obtain ⟨μ, d, hm, e, c⟩ := c.look
    cases e1 : dL μ dx with
    | none => rw [e1] at e; cases e
    | some zs =>
      rw [e1, Option.bind_some] at e
      by_cases h : flD y = true ∧ zs.all flD = true
      · rw [if_pos h] at e
        cases e2 : firstF y zs with
        | none => rw [e2] at e; cases e
        | some j =>
          rw [e2] at e
          cases e
          obtain ⟨a, vs, rfl, h1, r1⟩ := hm.dL rx e1
          obtain ⟨⟨d', g1, g2⟩, g3⟩ := firstF_is e2
          obtain ⟨v, k1, k2⟩ := r1.get g1
          have all := List.all_eq_true.mp h.2
          refine ⟨a, vs, w, j, v, rfl, rfl, Rd.seq h1, fl_rep rw' h.1, fl_reps r1 h.2, k1, ?_, fun m z' hm' ez => ?_, c.ok _ (.int _)⟩
          · rw [eqF_rep k2 rw' (all _ (List.mem_of_getElem? g1)) h.1]; exact g2
          · have hml : m < zs.length := by
              have := (List.getElem?_eq_some_iff.mp ez).1
              rw [r1.length] at this; exact this
            obtain ⟨v', k3, k4⟩ := r1.get (List.getElem?_eq_getElem hml)
            rw [ez] at k3
            cases k3
            rw [eqF_rep k4 rw' (all _ (List.getElem_mem hml)) h.1]
            exact g3 m _ hm' (List.getElem?_eq_getElem hml)
      · rw [if_neg h] at e; cases e
  · exact c.fails.elim
/-- methods without arguments -/
theorem de_bm0 {T id : String} {name : Str} {apos cpos : Pos} {ck : Mu → D → Bool} {o : D → List D → Cm D} {r : V → List V → Hp → VK → Prop} {ob : Expr} {fo : Sl → Cm D} (pa : PlainAttrs T) (slot : Slot T name id) (hty : typeOf (.builtin id) = pure (.type "method_descriptor")) (hm : MtR X id r)
    (hck : CkT (gx X tb) ck T) (sem : SemM (gx X tb) o r) (ho : DE X tb W ob fo)
    (hbase : attributeBase ob name X.env (eval ob X.env) = eval ob X.env := by rfl) (hline : (apos.endLine == cpos.line) = true := by rfl) :
    DE X tb W (.Call (.Attribute ob name apos) [] [] cpos) (eBM ck o fo aNil) :=
  (pe_bm0 pa slot hty hm ho hbase hline).imp fun σ H Q h => by
    obtain ⟨sl, ρ, hs, hc⟩ := rd_bm hck sem h
    exact ⟨sl, ρ, hs, hc.imp fun v H1 ⟨h1, h2⟩ => ⟨h1, by
      obtain ⟨sl2, ρ2, hs2, hc2⟩ := h2
      exact Cfg.ok hc2 [] .nil⟩⟩
end
end DL
namespace DL
theorem lk_cases {a b : PySem.Str × PySem.Str} {z u : PySem.Str} (e : List.lookup z [a, b] = some u) : (z = a.1 ∧ u = a.2) ∨ (z = b.1 ∧ u = b.2) := by
  rw [List.lookup_cons] at e
  cases h : z == a.1 with
  | true => rw [h] at e; cases e; exact .inl ⟨beq_iff_eq.mp h, rfl⟩
  | false =>
    rw [h] at e
    simp only at e
    rw [List.lookup_cons] at e
    cases h2 : z == b.1 with
    | true => rw [h2] at e; cases e; exact .inr ⟨beq_iff_eq.mp h2, rfl⟩
    | false => rw [h2] at e; cases e
end DL

namespace DL
open PySem PySem.Spec PyProof.Rows L2 GxR RT
/-! ## a, b = e1, e2 -/
def sPar (i j : Nat) (fs : Sl → Cm (List D)) : Sl → CS := sExp fs fun ds sl => match ds with
  | [d, e] => sNx ((sl.set i (some d)).set j (some e))
  | _ => fun _ => none
def sPar3 (i j l : Nat) (fs : Sl → Cm (List D)) : Sl → CS := sExp fs fun ds sl => match ds with
  | [d, e, f] => sNx (((sl.set i (some d)).set j (some e)).set l (some f))
  | _ => fun _ => none
section
variable {X : Cx} {tb : Addr → Prop} {W : WX} {pos : Pos}
theorem ds_par {i j : Nat} {x y : Str} {a b : Expr} {fs : Sl → Cm (List D)} {px py pt : Pos} {kt k2 pt2} (hc : X.calm = true) (hN : X.N.Nodup) (hi : X.N[i]? = some x) (hj : X.N[j]? = some y) (hij : i ≠ j)
    (hx : X.env.scope.names.lookup x = some .local) (hy : X.env.scope.names.lookup y = some .local) (ha : DA X tb W [a, b] fs)
    (hw : swappedStores [.Tuple [.Name x px, .Name y py] kt pt] (.Tuple [a, b] k2 pt2) X.env = pure (some [x, y]) := by rfl)
    (hs : swapsWithSole [.Tuple [.Name x px, .Name y py] kt pt] (.Tuple [a, b] k2 pt2) pos.line X.env = pure false := by rfl) :
    DS X tb W (.Assign [.Tuple [.Name x px, .Name y py] kt pt] (.Tuple [a, b] k2 pt2) pos) (sPar i j fs) :=
  (ps_par hc hN hi hj hij hx hy ha hw hs).imp fun De σ H h => by
    obtain ⟨sl0, ρ0, h1, h2⟩ := rdS.exp (Rq := rVs X.K) h
    refine ⟨sl0, ρ0, h1, h2.imp fun vs H1 ⟨sl, ρ1, ds, hs, rs, c⟩ => ?_⟩
    match ds, rs, c with
    | [d, e], rs, c =>
      obtain ⟨v, w, rfl, r1, r2⟩ := reps2 rs
      exact ⟨v, w, rfl, CfgS.nx c ((hs.set i r1).set j r2)⟩
    | [], _, c => obtain ⟨μ, r, μ', _, hc, _⟩ := c; cases hc
    | [_], _, c => obtain ⟨μ, r, μ', _, hc, _⟩ := c; cases hc
    | _ :: _ :: _ :: _, _, c => obtain ⟨μ, r, μ', _, hc, _⟩ := c; cases hc
theorem reps3 {K : PySem.W.Frag} {H : Hp} {ρ : Rho} {vs : List V} {d e f : D} (r : DReps K H ρ vs [d, e, f]) : ∃ u v w, vs = [u, v, w] ∧ DRep K H ρ u d ∧ DRep K H ρ v e ∧ DRep K H ρ w f := by
  cases r with | cons a b => cases b with | cons c d => cases d with | cons e f => cases f; exact ⟨_, _, _, rfl, a, c, e⟩
theorem ds_par3 {i j l : Nat} {x y z : Str} {a b c : Expr} {fs : Sl → Cm (List D)} {px py pz pt : Pos} {kt k2 pt2} (hc : X.calm = true) (hN : X.N.Nodup) (hi : X.N[i]? = some x) (hj : X.N[j]? = some y) (hl : X.N[l]? = some z) (hij : i ≠ j) (hil : i ≠ l) (hjl : j ≠ l)
    (hx : X.env.scope.names.lookup x = some .local) (hy : X.env.scope.names.lookup y = some .local) (hz : X.env.scope.names.lookup z = some .local) (ha : DA X tb W [a, b, c] fs)
    (hw : swappedStores [.Tuple [.Name x px, .Name y py, .Name z pz] kt pt] (.Tuple [a, b, c] k2 pt2) X.env = pure (some [x, y, z]) := by rfl)
    (hs : swapsWithSole [.Tuple [.Name x px, .Name y py, .Name z pz] kt pt] (.Tuple [a, b, c] k2 pt2) pos.line X.env = pure false := by rfl) :
    DS X tb W (.Assign [.Tuple [.Name x px, .Name y py, .Name z pz] kt pt] (.Tuple [a, b, c] k2 pt2) pos) (sPar3 i j l fs) :=
  (ps_par3 hc hN hi hj hl hij hil hjl hx hy hz ha hw hs).imp fun De σ H h => by
    obtain ⟨sl0, ρ0, h1, h2⟩ := rdS.exp (Rq := rVs X.K) h
    refine ⟨sl0, ρ0, h1, h2.imp fun vs H1 ⟨sl, ρ1, ds, hs, rs, c⟩ => ?_⟩
    match ds, rs, c with
    | [d, e, f], rs, c =>
      obtain ⟨u, v, w, rfl, r1, r2, r3⟩ := reps3 rs
      exact ⟨u, v, w, rfl, CfgS.nx c (((hs.set i r1).set j r2).set l r3)⟩
    | [], _, c => obtain ⟨μ, r, μ', _, hc, _⟩ := c; cases hc
    | [_], _, c => obtain ⟨μ, r, μ', _, hc, _⟩ := c; cases hc
    | [_, _], _, c => obtain ⟨μ, r, μ', _, hc, _⟩ := c; cases hc
    | _ :: _ :: _ :: _ :: _, _, c => obtain ⟨μ, r, μ', _, hc, _⟩ := c; cases hc
end
end DL

/-! any, all of a list of truths; sorted of ints; list(range(n)) -/
namespace DL
open PySem PySem.Spec PyProof.Rows L2
theorem bls_rep {K : PySem.W.Frag} {H : Hp} {ρ : Rho} : ∀ {ds : List D} {bs : List Bool} {vs : List V}, blsD ds = some bs → DReps K H ρ vs ds → vs = bs.map V.bl
  | [], _, _, e, r => by cases r; cases e; rfl
  | .bl i :: ds, ns, _, e, r => by
    cases r with
    | cons a b =>
      cases a
      unfold blsD at e
      cases e1 : blsD ds with
      | none => rw [e1] at e; cases e
      | some ms => rw [e1] at e; cases e; rw [bls_rep e1 b]; rfl
  | .non :: _, _, _, e, _ => by cases e
  | .int _ :: _, _, _, e, _ => by cases e
  | .str _ :: _, _, _, e, _ => by cases e
  | .lst _ :: _, _, _, e, _ => by cases e
  | .tup _ :: _, _, _, e, _ => by cases e
  | .mref _ :: _, _, _, e, _ => by cases e
  | .dic _ _ :: _, _, _, e, _ => by cases e
  | .wtup _ :: _, _, _, e, _ => by cases e
def oAnyL : List D → Cm D
  | [d] => Cm.look fun μ => (dL μ d).bind fun xs => (blsD xs).map fun bs => .bl (bs.any id)
  | _ => Cm.fail
def oAllL : List D → Cm D
  | [d] => Cm.look fun μ => (dL μ d).bind fun xs => (blsD xs).map fun bs => .bl (bs.all id)
  | _ => Cm.fail
theorem sem_anyL {G : Gx} : SemC G oAnyL (rAny G.K) := by
  intro W ρ H xs ds Q rs c
  match ds, rs, c with
  | [d], rs, c =>
    obtain ⟨v, rfl, r⟩ := reps1 rs
    obtain ⟨μ, d', hm, e, c⟩ := Cfg.look (f := fun μ => (dL μ d).bind fun xs => (blsD xs).map fun bs => D.bl (bs.any id)) c
    cases e1 : dL μ d with
    | none => rw [e1] at e; cases e
    | some xs =>
      rw [e1] at e
      have e : (blsD xs).map (fun bs => D.bl (bs.any id)) = some d' := e
      cases e2 : blsD xs with
      | none => rw [e2] at e; cases e
      | some ns =>
        rw [e2] at e
        cases e
        obtain ⟨a, vs, rfl, h1, r1⟩ := hm.dL r e1
        have := bls_rep e2 r1
        subst this
        exact ⟨a, ns, rfl, Rd.seq h1, c.ok _ (.bl _)⟩
  | [], _, c => exact c.fails.elim
  | _ :: _ :: _, _, c => exact c.fails.elim
theorem sem_allL {G : Gx} : SemC G oAllL (rAll G.K) := by
  intro W ρ H xs ds Q rs c
  match ds, rs, c with
  | [d], rs, c =>
    obtain ⟨v, rfl, r⟩ := reps1 rs
    obtain ⟨μ, d', hm, e, c⟩ := Cfg.look (f := fun μ => (dL μ d).bind fun xs => (blsD xs).map fun bs => D.bl (bs.all id)) c
    cases e1 : dL μ d with
    | none => rw [e1] at e; cases e
    | some xs =>
      rw [e1] at e
      have e : (blsD xs).map (fun bs => D.bl (bs.all id)) = some d' := e
      cases e2 : blsD xs with
      | none => rw [e2] at e; cases e
      | some ns =>
        rw [e2] at e
        cases e
        obtain ⟨a, vs, rfl, h1, r1⟩ := hm.dL r e1
        have := bls_rep e2 r1
        subst this
        exact ⟨a, ns, rfl, Rd.seq h1, c.ok _ (.bl _)⟩
  | [], _, c => exact c.fails.elim
  | _ :: _ :: _, _, c => exact c.fails.elim
def sortI (ns : List Int) : List Int := ns.mergeSort fun a b => decide (a ≤ b)
theorem sortI_perm (ns : List Int) : (sortI ns).Perm ns := List.mergeSort_perm _ _
theorem sortI_pair (ns : List Int) : (sortI ns).Pairwise (· ≤ ·) := by
  have h := List.pairwise_mergeSort (le := fun a b : Int => decide (a ≤ b)) (fun a b c h1 h2 => by simp at *; omega) (fun a b => by simp; omega) ns
  exact h.imp fun h => by simpa using h
theorem sortI_of {ns l : List Int} (hp : l.Perm ns) (hs : l.Pairwise (· ≤ ·)) : l = sortI ns :=
  List.Perm.eq_of_pairwise (le := (· ≤ ·)) (fun a b _ _ h1 h2 => by omega) hs (sortI_pair ns) (hp.trans (sortI_perm ns).symm)
def oSortI (mk : List D → Cm D) : List D → Cm D
  | [d] => (Cm.look fun μ => (dL μ d).bind intsD).bind fun ns => mk ((sortI ns).map D.int)
  | _ => Cm.fail
theorem sem_sortI {G : Gx} {mk : List D → Cm D} (hmk : MkL G mk) : SemC G (oSortI mk) (rSortedI G.K) := by
  intro W ρ H xs ds Q rs c
  match ds, rs, c with
  | [d], rs, c =>
    obtain ⟨v, rfl, r⟩ := reps1 rs
    obtain ⟨μ, q, μ', hm, hc, he⟩ := c
    rcases bind_inv hc with ⟨ns, μ1, h1, h2⟩ | ⟨x, μ1, h1, h2⟩
    · obtain ⟨ys, e, e2, rfl⟩ := look_inv h1
      cases e2
      cases e1 : dL μ1 d with
      | none => rw [e1] at e; cases e
      | some xs =>
        rw [e1] at e
        have e : intsD xs = some ns := e
        obtain ⟨a, vs, rfl, h3, r1⟩ := hm.dL r e1
        have := ints_rep e r1
        subst this
        refine ⟨a, ns, rfl, Rd.seq h3, fun ns' p hp hs hn => ?_⟩
        rw [sortI_of hp hs]
        exact hmk W ρ H _ _ Q (ints_reps _) ⟨_, q, μ', hm, h2, he⟩ p hn
    · obtain ⟨ys, e, e2, rfl⟩ := look_inv h1
      cases e2
  | [], _, c => exact c.fails.elim
  | _ :: _ :: _, _, c => exact c.fails.elim
theorem bt_any : bootBuiltins "any" = some (.builtin "any") := by decide +kernel
theorem bt_sorted : bootBuiltins "sorted" = some (.builtin "sorted") := by decide +kernel
instance (a b : Int) : Decidable (RgOk a b) := by unfold RgOk; infer_instance
def rgN : D → Option Int
  | .int n => if RgOk 0 n then some n else none
  | _ => none
def eLstRg (mk : List D → Cm D) (fa : Sl → Cm D) : Sl → Cm D := fun sl => (fa sl).bind fun d => (Cm.lift (rgN d)).bind fun n => mk (upto 0 n.toNat)
theorem rg_reps {K : PySem.W.Frag} {H : Hp} {ρ : Rho} (n : Int) : DReps K H ρ (rgV 0 n) (upto 0 n.toNat) := by
  have e1 : rgV 0 n = ((List.range n.toNat).map fun i : Nat => (i : Int)).map V.int := by
    unfold rgV
    rw [Int.sub_zero, List.map_map]
    exact List.map_congr_left fun i _ => by simp
  have e2 : upto 0 n.toNat = ((List.range n.toNat).map fun i : Nat => (i : Int)).map D.int := by
    unfold upto
    rw [List.map_map]
    exact List.map_congr_left fun i _ => by simp
  rw [e1, e2]
  exact ints_reps _
section
variable {X : Cx} {tb : Addr → Prop} {W : WX} {pos : Pos}
theorem de_listRg {a : Expr} {fa : Sl → Cm D} {p p2 pos2 : Pos} {mk : List D → Cm D} (hmk : MkL (gx X tb) mk) (hc : X.calm = true) (hg : Gl X "list") (hm : X.mg "list" = none) (hg2 : Gl X "range") (hm2 : X.mg "range" = none) (ha : DE X tb W a fa)
    (na2 : starEach [a] X.env = (false, eval a X.env) :: starEach [] X.env := by rfl)
    (na : starEach [.Call (.Name "range" p2) [a] [] pos2] X.env = (false, eval (.Call (.Name "range" p2) [a] [] pos2) X.env) :: starEach [] X.env := by rfl) :
    DE X tb W (.Call (.Name "list" p) [.Call (.Name "range" p2) [a] [] pos2] [] pos) (eLstRg mk fa) :=
  (pe_listRg hc hg hm (prg_1 hg2 hm2 ha na2) na).imp fun σ H Q ⟨sl, ρ, hs, hcf⟩ => ⟨sl, ρ, hs, (Cfg.bind (Rq := rV X.K) hcf).imp fun v H1 ⟨ρ1, d, r, x, k, c⟩ => by
    obtain ⟨μ, q, μ', hM, hC, hE⟩ := c
    rcases bind_inv hC with ⟨n, μ1, h1, h2⟩ | ⟨z, μ1, h1, h2⟩
    · cases d with
      | int i =>
        have e : rgN (.int i) = if RgOk 0 i then some i else none := rfl
        unfold Cm.lift at h1
        rw [e] at h1
        by_cases hr : RgOk 0 i
        · rw [if_pos hr] at h1
          cases h1
          cases r
          exact ⟨n, rfl, hr, hmk _ _ _ _ _ _ (rg_reps n) ⟨_, q, μ', hM, h2, hE⟩⟩
        · rw [if_neg hr] at h1; cases h1
      | _ => unfold Cm.lift rgN at h1; cases h1
    · cases d with
      | int i =>
        have e : rgN (.int i) = if RgOk 0 i then some i else none := rfl
        unfold Cm.lift at h1
        rw [e] at h1
        by_cases hr : RgOk 0 i
        · rw [if_pos hr] at h1; cases h1
        · rw [if_neg hr] at h1; cases h1
      | _ => unfold Cm.lift rgN at h1; cases h1⟩
end
end DL

/-! xs[i] op= e, xs a living list of ints -/
namespace DL
open PySem PySem.Spec PyProof.Rows L2
section
variable {X : Cx} {tb : Addr → Prop} {W : WX} {pos : Pos}
theorem pget_list : PGet X (rIxL X.K) := by
  intro pins s σ H x y v u Q I rx ry h
  obtain ⟨p, xs, i, z, rfl, rfl, hq, he, q⟩ := h
  cases rx
  obtain ⟨t, rfl⟩ := ry
  obtain ⟨its, r, pl, hz⟩ := I.list hq
  obtain ⟨j, h1, h2, h3, h4, h5⟩ := atI_get he
  obtain ⟨w, ew, rw'⟩ := r.get h2
  have hl := r.length
  have hn := line63
  have fin : EP X pins σ Q w s := ⟨z, H, I, rw', q⟩
  by_cases h0 : 0 ≤ i
  · have hj : i.toNat = j := by
      rw [seqIndex_of h0 h5] at h1
      exact Option.some.inj h1
    exact wpAny_getItem_list pl.isList h0 (by omega) (by rw [hj]; simpa using ew) fin
  · have hj : (i + (its.toArray.size : Int)).toNat = j := by
      rw [seqIndex_neg (by omega) h4] at h1
      rw [List.size_toArray, ← hl]
      exact Option.some.inj h1
    exact wpAny_getItem_list_neg pl.isList (by omega) (by rw [List.size_toArray] <;> omega) (by omega) (by rw [hj]; simpa using ew) fin
def oIxM (o i : D) : Cm D := match o, i with
  | .mref h, .int k => Cm.look fun μ => (dL μ (.mref h)).bind fun xs => atI xs k
  | _, _ => Cm.fail
theorem oIxM_inv {G : Gx} {o i : D} {V0 : Value → Option Addr → Hp → Prop} {ρ : Rho} {H : Hp} {Q : VK} (c : Cfg G (rV G.K) V0 ρ H (oIxM o i) Q) :
    ∃ h k, o = .mref h ∧ i = .int k ∧ Cfg G (rV G.K) V0 ρ H (Cm.look fun μ => (dL μ (.mref h)).bind fun xs => atI xs k) Q := by
  unfold oIxM at c
  split at c
  · exact ⟨_, _, rfl, rfl, c⟩
  · exact c.fails.elim
def sAugIx (g : Int → Int → Int) (fo fi fe : Sl → Cm D) : Sl → CS := sExp (fun sl => (fo sl).bind fun o => (fi sl).bind fun i => (oIxM o i).bind fun x => (fe sl).bind fun y => (oI2 (fun _ _ => True) (fun a b => .int (g a b)) x y).bind fun z => oSetIx o i z) fun _ sl => sNx sl
theorem ds_augIx {o i e : Expr} {op : Operator} {g : Int → Int → Int} {tp : Pos} {fo fi fe : Sl → Cm D} (hip : PIp X op (ipI g)) (ho : DE X tb W o fo) (hi : DE X tb W i fi) (he : DE X tb W e fe)
    (ha : ∀ ov iv new, augStore i ov iv new = (do holding [new, ov, iv] (setItem ov iv new); release [new, ov, iv] []; pure .next) := by intros; rfl) :
    DS X tb W (.AugAssign (.Subscript o i tp) op e pos) (sAugIx g fo fi fe) :=
  (ps_augS ho hi pget_list he hip set_list ha).imp fun De σ H h => by
    obtain ⟨sl0, ρ0, h1, h2⟩ := rdS.exp (Rq := rV X.K) h
    refine ⟨sl0, ρ0, h1, (Cfg.bind (Rq := rV X.K) h2).imp fun ov H1 ⟨ρ1, od, ro, x1, k1, c1⟩ => ?_⟩
    refine ⟨sl0, ρ1, h1.step x1 k1, (Cfg.bind (Rq := rV X.K) c1).imp fun iv H2 ⟨ρ2, id', ri, x2, k2, c2⟩ => ?_⟩
    have c2b := Cfg.bind (Rq := rV X.K) c2
    obtain ⟨hh, k, rfl, rfl, c2c⟩ := oIxM_inv c2b
    obtain ⟨μ, d, hm, e1, c3⟩ := c2c.look
    have ro2 := DRep.step x2 k2 _ _ ro
    cases ri
    cases e2 : dL μ (.mref hh) with
    | none => rw [e2] at e1; cases e1
    | some xs =>
      rw [e2] at e1
      obtain ⟨a, vs, rfl, h3, r1⟩ := hm.dL ro2 e2
      obtain ⟨v, hv, rv⟩ := at_rep r1 e1
      refine ⟨a, vs, k, v, rfl, rfl, Rd.seq h3, hv, ?_⟩
      obtain ⟨ρ3, dx, rx, x3, k3, c4⟩ := c3.ok v rv
      refine ⟨sl0, ρ3, ((h1.step x1 k1).step x2 k2).step x3 k3, (Cfg.bind (Rq := rV X.K) c4).imp fun y H4 ⟨ρ4, dy, ry, x4, k4, c5⟩ => ?_⟩
      have c5b := Cfg.bind (Rq := rV X.K) c5
      obtain ⟨a', b', rfl, rfl, _, c6⟩ := oI2_inv c5b
      have rx4 := DRep.step x4 k4 _ _ rx
      cases rx4; cases ry
      obtain ⟨ρ5, dz, rz, x5, k5, c7⟩ := c6.ok (.int (g a' b')) (.int _)
      refine ⟨a', b', rfl, rfl, ?_⟩
      have ro5 := DRep.step x5 k5 _ _ (DRep.step x4 k4 _ _ (DRep.step x3 k3 _ _ ro2))
      obtain ⟨h', k', e5, e6, c8⟩ := oSetIx_inv c7
      cases e5; cases e6
      obtain ⟨μ, q, μ', hm, hc, hE⟩ := c8
      obtain ⟨zs, ys, d2, e1, e2, rfl, rfl⟩ := oMu_inv hc
      obtain ⟨a2, vs2, e7, g1, g2, g3⟩ := hm.lst2 ro5 e1
      cases e7
      cases e3 : ixN zs.length k with
      | none => rw [e3] at e2; cases e2
      | some j =>
        rw [e3] at e2
        cases e2
        refine ⟨a, vs2, k, j, rfl, rfl, g2, by rw [g3.length]; exact e3, ?_⟩
        obtain ⟨sl, ρ6, d4, hs4, _, c9⟩ := hE .non _ ρ5 (mut_upd hm g1 g2 (g3.set rz j)) .non
        exact c9.nx hs4
end
end DL

/-! max(xs) of a list of ints, abs of an int -/
namespace DL
open PySem PySem.Spec PyProof.Rows L2
def lMax : List Int → Option Int
  | [] => none
  | [x] => some x
  | x :: y :: r => (lMax (y :: r)).map fun m => if x < m then m else x
theorem lMax_is : ∀ {ns : List Int} {m : Int}, lMax ns = some m → m ∈ ns ∧ ∀ y, y ∈ ns → y ≤ m
  | [], _, e => by cases e
  | [x], m, e => by cases e; exact ⟨List.mem_singleton.mpr rfl, fun y h => by rw [List.mem_singleton.mp h]; exact Int.le_refl _⟩
  | x :: y :: r, m, e => by
    have e : (lMax (y :: r)).map (fun m => if x < m then m else x) = some m := e
    cases e1 : lMax (y :: r) with
    | none => rw [e1] at e; cases e
    | some k =>
      rw [e1] at e
      obtain ⟨h1, h2⟩ := lMax_is e1
      cases e
      by_cases hk : x < k
      · show (if x < k then k else x) ∈ _ ∧ _
        simp only [if_pos hk]
        refine ⟨List.mem_cons_of_mem _ h1, fun z hz => ?_⟩
        rcases List.mem_cons.mp hz with q | q
        · rw [q]; omega
        · exact h2 z q
      · simp only [if_neg hk]
        refine ⟨List.mem_cons_self, fun z hz => ?_⟩
        rcases List.mem_cons.mp hz with q | q
        · rw [q]; exact Int.le_refl _
        · have := h2 z q; omega
def oMaxL : List D → Cm D
  | [d] => Cm.look fun μ => (dL μ d).bind fun xs => (intsD xs).bind fun ns => (lMax ns).map .int
  | _ => Cm.fail
theorem sem_maxL {G : Gx} : SemC G oMaxL (rMax G.K) := by
  intro W ρ H xs ds Q rs c
  match ds, rs, c with
  | [d], rs, c =>
    obtain ⟨v, rfl, r⟩ := reps1 rs
    obtain ⟨μ, d', hm, e, c⟩ := Cfg.look (f := fun μ => (dL μ d).bind fun xs => (intsD xs).bind fun ns => (lMax ns).map D.int) c
    cases e1 : dL μ d with
    | none => rw [e1] at e; cases e
    | some xs =>
      rw [e1] at e
      have e : (intsD xs).bind (fun ns => (lMax ns).map D.int) = some d' := e
      cases e2 : intsD xs with
      | none => rw [e2] at e; cases e
      | some ns =>
        rw [e2] at e
        have e : (lMax ns).map D.int = some d' := e
        cases e3 : lMax ns with
        | none => rw [e3] at e; cases e
        | some k =>
          rw [e3] at e
          cases e
          obtain ⟨a, vs, rfl, h1, r1⟩ := hm.dL r e1
          have := ints_rep e2 r1
          subst this
          obtain ⟨i1, i2⟩ := lMax_is e3
          refine ⟨a, ns, rfl, Rd.seq h1, List.length_pos_of_mem i1, fun m j1 j2 => ?_⟩
          have : m = k := Int.le_antisymm (i2 m j1) (j2 k i1)
          rw [this]
          exact c.ok _ (.int _)
  | [], _, c => exact c.fails.elim
  | _ :: _ :: _, _, c => exact c.fails.elim
def oAbs : List D → Cm D
  | [.int i] => Cm.ok (.int (if i < 0 then -i else i))
  | _ => Cm.fail
theorem sem_abs {G : Gx} : SemC G oAbs (fun xs H Q => ∃ i, xs = [.int i] ∧ Q (.int (if i < 0 then -i else i)) H) := by
  intro W ρ H xs ds Q rs c
  unfold oAbs at c
  split at c
  · obtain ⟨v, rfl, r1⟩ := reps1 rs
    cases r1
    exact ⟨_, rfl, c.ok _ (.int _)⟩
  · exact c.fails.elim
theorem bt_abs : bootBuiltins "abs" = some (.builtin "abs") := by decide +kernel
end DL

namespace PySem
namespace F
theorem owner_acc : Manifest.owners.lookup (String.ofList ['e', 't', 'a', 'l', 'u', 'm', 'u', 'c', 'c', 'a', '.', 's', 'l', 'o', 'o', 't', 'r', 'e', 't', 'i'].reverse) = some Manifest.sig_itertools_accumulate := by kernel_rfl
theorem slot_acc_next : Slot "itertools.accumulate" "__next__" "itertools.accumulate.__next__" :=
  .of (owner := "itertools.accumulate") (n := "__next__") (by rw [typeLookup_type, builtinLookup_eq_fast]; kernel_rfl) (by decide +kernel) (by decide +kernel) (by decide +kernel)
    (by first | exact .inl (by decide +kernel) | exact .inr (by decide +kernel)) (by rw [isSubtype_type]; kernel_rfl)
theorem entry_acc_next : entryFor table "itertools.accumulate.__next__" = some Builtin.«itertools.accumulate.__next__» := entryFor_of_tree (by kernel_rfl)
theorem args_acc_next_1 (a : Value) : argsOk "itertools.accumulate.__next__" ⟨[a], []⟩ := by
  unfold argsOk; rw [signature?_of (id := "itertools.accumulate.__next__") (n := ['_', '_', 't', 'x', 'e', 'n', '_', '_']) (o := ['e', 't', 'a', 'l', 'u', 'm', 'u', 'c', 'c', 'a', '.', 's', 'l', 'o', 'o', 't', 'r', 'e', 't', 'i']) (by kernel_rfl) owner_acc]; kernel_rfl
theorem slot_acc_iter : Slot "itertools.accumulate" "__iter__" "itertools.accumulate.__iter__" :=
  .of (owner := "itertools.accumulate") (n := "__iter__") (by rw [typeLookup_type, builtinLookup_eq_fast]; kernel_rfl) (by decide +kernel) (by decide +kernel) (by decide +kernel)
    (by first | exact .inl (by decide +kernel) | exact .inr (by decide +kernel)) (by rw [isSubtype_type]; kernel_rfl)
theorem args_acc_iter_1 (a : Value) : argsOk "itertools.accumulate.__iter__" ⟨[a], []⟩ := by
  unfold argsOk; rw [signature?_of (id := "itertools.accumulate.__iter__") (n := ['_', '_', 'r', 'e', 't', 'i', '_', '_']) (o := ['e', 't', 'a', 'l', 'u', 'm', 'u', 'c', 'c', 'a', '.', 's', 'l', 'o', 'o', 't', 'r', 'e', 't', 'i']) (by kernel_rfl) owner_acc]; kernel_rfl
theorem entry_acc_iter : entryFor table "itertools.accumulate.__iter__" = some Builtin.«dict_keyiterator.__iter__» :=
  entryFor_alias (id' := "dict_keyiterator.__iter__") (by kernel_rfl) (by first | rfl | decide +kernel | (unfold String.splitOn; simp +decide [String.splitOnAux])) (by decide +kernel) (by kernel_rfl)
theorem mro_acc : mroOf (.type "itertools.accumulate") = pure [.type "itertools.accumulate", .type "object"] := by rw [mroOf_type]; kernel_rfl
theorem lookup_acc_new : typeLookup (.type "itertools.accumulate") "__new__" = pure (some (.builtin "itertools.accumulate.__new__")) := by rw [typeLookup_type, builtinLookup_eq_fast]; kernel_rfl
theorem made_acc : Bind.madeBy (.type "itertools.accumulate") = pure (some "itertools.accumulate.__new__") := madeBy_type mro_acc lookup_acc_new (by decide +kernel)
theorem typeCall_acc_1 (a : Value) : checkTypeCall "itertools.accumulate" ⟨[a], []⟩ = pure () := by kernel_rfl
theorem newCall_acc_1 (a : Value) : checkBuiltinCall "itertools.accumulate.__new__" ⟨[.type "itertools.accumulate", a], []⟩ = pure () := by kernel_rfl
theorem entry_acc_new : entryFor table "itertools.accumulate.__new__" = some Builtin.«itertools.accumulate.__new__» := entryFor_of_tree (by kernel_rfl)
theorem plain_acc_new : plainId "itertools.accumulate.__new__" = true := by decide +kernel
theorem sub_acc_self : isSubtype (.type "itertools.accumulate") (.type "itertools.accumulate") = pure true := by rw [isSubtype_type]; kernel_rfl
theorem acc_no_len : typeLookup (.type "itertools.accumulate") "__len__" = pure none := by rw [typeLookup_type, builtinLookup_eq_fast]; kernel_rfl
theorem acc_no_hint : typeLookup (.type "itertools.accumulate") "__length_hint__" = pure none := by rw [typeLookup_type, builtinLookup_eq_fast]; kernel_rfl
end F
end PySem

namespace PySem
namespace F
theorem slot_acc_init : Slot "itertools.accumulate" "__init__" "object.__init__" :=
  .of (owner := "object") (n := "__init__") (by rw [typeLookup_type, builtinLookup_eq_fast]; kernel_rfl) (by decide +kernel) (by decide +kernel) (by decide +kernel)
    (by first | exact .inl (by decide +kernel) | exact .inr (by decide +kernel)) (by rw [isSubtype_type]; kernel_rfl)
theorem called_acc : TypeCalled "itertools.accumulate" "itertools.accumulate.__new__" "object.__init__" :=
  ⟨by decide +kernel, by decide +kernel, ⟨_, _, mro_acc⟩, made_acc, by decide +kernel, sub_acc_self, slot_acc_init⟩
theorem noDict_acc : typeHasDict (.type "itertools.accumulate") = false := by decide +kernel
end F
end PySem
namespace Acc
open PySem PySem.Spec PyProof.Rows PySem.Builtin
/-- the object: its source, its total -/
abbrev IsAcc (h : Heap) (m it : Addr) (tot : Value) : Prop := h.get? m = some { cls := .type "itertools.accumulate", dict := none, data := .fields #[.ref it, .none, tot, .none], slots := #[] }
section
variable {prog : Program} {w : World} {A : Around} {E : Value → Shared → Prop} {s : Shared}
/-! ### the list's iterator, drawn raw -/
theorem iter_obj {h : Heap} {it l : Addr} {i : Nat} (o : h.get? it = some (GNX.itObj l i)) : h.IsListIter it l i := ⟨_, o, rfl, rfl⟩
theorem raw_item {it l : Addr} {i : Nat} {items : Array Value} {x : Value} {Q : Value → Shared → Prop} (ho : s.heap.get? it = some (GNX.itObj l i)) (hl : s.heap.IsList l items) (hx : items[i]? = some x)
    (hQ : ∀ h', h'.get? it = some (GNX.itObj l (i + 1)) → Heap.SameBut it s.heap h' → Q x { s with heap := h' }) : wpAny (model prog w) A (Itertools.itRawNext (.ref it)) Q E s := by
  have ht := (iter_obj ho).typeIs
  exact wpAny_bind (wpAny_callSpecial?_slot (name := Str.ofString "__next__") ht slot_listiter_next (wpAny_call_entry slot_listiter_next ht entry_listiter_next (GNX.next_item ho hl hx fun h' a b => wpAny_pure (hQ h' a b)) (args_listiter_next _)))
theorem raw_end {it l : Addr} {i : Nat} {items : Array Value} {Q : Value → Shared → Prop} (hh : A.handled = none) (ho : s.heap.get? it = some (GNX.itObj l i)) (hl : s.heap.IsList l items) (hx : items[i]? = none)
    (hE : ∀ h' e, Heap.ExtBut it s.heap h' → (∃ o, h'.get? e = some o ∧ o.cls = .type "StopIteration") → E (.ref e) { s with heap := h' }) : wpAny (model prog w) A (Itertools.itRawNext (.ref it)) Q E s := by
  have ht := (iter_obj ho).typeIs
  refine wpAny_bind (wpAny_callSpecial?_slot (name := Str.ofString "__next__") ht slot_listiter_next (wpAny_call_entry slot_listiter_next ht entry_listiter_next (GNX.next_end hh ho hl hx fun h1 h' e vs _ sb k _ he _ => ?_) (args_listiter_next _)))
  exact hE h' e (fun b o hb q => k b o (sb.extBut b o hb q)) ⟨_, he, rfl⟩
/-! ### the object's __next__ -/
theorem next_item {m it l : Addr} {i : Nat} {items : Array Value} {tot : Value} {k j : Int} {u : Tok} {Q : Value → Shared → Prop} (hm : IsAcc s.heap m it tot) (hit : s.heap.get? it = some (GNX.itObj l i)) (hl : s.heap.IsList l items) (hx : items[i]? = some (.int j u))
    (hmi : m ≠ it) (hml : m ≠ l) (hli : l ≠ it) (ht : (tot = Itertools.itNothing ∧ k = 0) ∨ ∃ t, tot = .int k t)
    (hQ : ∀ h' tk t', IsAcc h' m it (.int (k + j) t') → h'.get? it = some (GNX.itObj l (i + 1)) → h'.IsList l items → (∀ b o, b ≠ it → b ≠ m → s.heap.get? b = some o → h'.get? b = some o) → s.toks ≤ tk → Q (.int (k + j) t') { s with heap := h', toks := tk }) :
    wpAny (model prog w) A (Builtin.«itertools.accumulate.__next__» ⟨[.ref m], []⟩) (fun fin s' => ∃ v, fin = .done (.ret v) ∧ Q v s') E s := by
  show wpAny _ _ (field (.ref m) 3 >>= _) _ _ _
  refine wpAny_bind (wpAny_field hm rfl (x := .none) rfl ?_)
  show wpAny _ _ (field (.ref m) 0 >>= _) _ _ _
  refine wpAny_bind (wpAny_field hm rfl (x := .ref it) rfl ?_)
  refine wpAny_bind (raw_item hit hl hx fun h' hit' hs' => ?_)
  have hm' : IsAcc h' m it tot := hs'.extBut _ _ hmi hm
  have hl' : h'.IsList l items := hl.extBut hs'.extBut hli
  refine wpAny_bind (wpAny_field hm' rfl (x := tot) rfl ?_)
  have upd : ∀ v : Value, IsAcc (h'.update m (Obj.mapFields fun x => x.setIfInBounds 2 v)) m it v := fun v => Heap.get?_update_self _ hm' rfl
  have ub : ∀ v : Value, Heap.SameBut m h' (h'.update m (Obj.mapFields fun x => x.setIfInBounds 2 v)) := fun v => Heap.SameBut.update ..
  have fin : ∀ (t' : Tok) (tk : Nat), s.toks ≤ tk → Q (.int (k + j) t') { s with heap := h'.update m (Obj.mapFields fun x => x.setIfInBounds 2 (.int (k + j) t')), toks := tk } := fun t' tk htk =>
    hQ _ tk t' (upd _) ((ub _).extBut _ _ (Ne.symm hmi) hit') (hl'.extBut (ub _).extBut (Ne.symm hml)) (fun b o hb hb2 e => (ub _).extBut _ _ hb2 (hs'.extBut _ _ hb e)) htk
  by_cases hb : (tot == Itertools.itNothing) = true
  · rw [if_pos hb]
    have hk : k = 0 := by
      rcases ht with ⟨_, h⟩ | ⟨t, rfl⟩
      · exact h
      · have := eq_of_beq hb
        unfold Itertools.itNothing rawInt at this
        cases this; rfl
    subst hk
    rw [Int.zero_add] at fin
    refine wpAny_bind (wpAny_rule ?_)
    refine wpAny_bind (wpAny_setField hm' rfl (by simp) ?_)
    exact wpAny_pure ⟨_, rfl, fin u _ (Nat.le_refl _)⟩
  · rw [if_neg hb]
    obtain ⟨t, rfl⟩ : ∃ t, tot = .int k t := by
      rcases ht with ⟨rfl, _⟩ | h
      · exact absurd (by decide) hb
      · exact h
    refine wpAny_bind (wpAny_field hm' rfl (x := .none) rfl ?_)
    refine wpAny_bind (wpAny_holding ?_)
    rw [if_pos (show ((Value.none == Value.none) = true) by decide)]
    refine wpAny_add_int ?_
    refine wpAny_bind (wpAny_setField hm' rfl (by simp) ?_)
    refine wpAny_bind (wpAny_letGo ?_)
    exact wpAny_pure ⟨_, rfl, fin _ _ (Nat.le_succ _)⟩
theorem next_end {m it l : Addr} {i : Nat} {items : Array Value} {tot : Value} {Q : Fin → Shared → Prop} (hh : A.handled = none) (hm : IsAcc s.heap m it tot) (hit : s.heap.get? it = some (GNX.itObj l i)) (hl : s.heap.IsList l items) (hx : items[i]? = none)
    (hE : ∀ h' e, Heap.ExtBut it s.heap h' → (∃ o, h'.get? e = some o ∧ o.cls = .type "StopIteration") → E (.ref e) { s with heap := h' }) :
    wpAny (model prog w) A (Builtin.«itertools.accumulate.__next__» ⟨[.ref m], []⟩) Q E s := by
  show wpAny _ _ (field (.ref m) 3 >>= _) _ _ _
  refine wpAny_bind (wpAny_field hm rfl (x := .none) rfl ?_)
  show wpAny _ _ (field (.ref m) 0 >>= _) _ _ _
  refine wpAny_bind (wpAny_field hm rfl (x := .ref it) rfl ?_)
  exact wpAny_bind (raw_end hh hit hl hx hE)
/-! ### it is walked -/
theorem pyNext_item {m it l : Addr} {i : Nat} {items : Array Value} {tot : Value} {k j : Int} {u : Tok} {Q : Option Value → Shared → Prop} (hm : IsAcc s.heap m it tot) (hit : s.heap.get? it = some (GNX.itObj l i)) (hl : s.heap.IsList l items) (hx : items[i]? = some (.int j u))
    (hmi : m ≠ it) (hml : m ≠ l) (hli : l ≠ it) (ht : (tot = Itertools.itNothing ∧ k = 0) ∨ ∃ t, tot = .int k t)
    (hQ : ∀ h' tk t', IsAcc h' m it (.int (k + j) t') → h'.get? it = some (GNX.itObj l (i + 1)) → h'.IsList l items → (∀ b o, b ≠ it → b ≠ m → s.heap.get? b = some o → h'.get? b = some o) → s.toks ≤ tk → Q (some (.int (k + j) t')) { s with heap := h', toks := tk }) :
    wpAny (model prog w) A (pyNext (.ref m)) Q E s := by
  have hT0 : s.TypeIs (.ref m) "itertools.accumulate" := ⟨_, hm, rfl⟩
  unfold pyNext
  exact wpAny_bind (wpAny_attempt (wpAny_callSpecial?_slot (name := Str.ofString "__next__") hT0 F.slot_acc_next
    (wpAny_call_entry F.slot_acc_next hT0 F.entry_acc_next
      (next_item hm hit hl hx hmi hml hli ht fun h' tk t' a b c d e => wpAny_pure (hQ h' tk t' a b c d e)) (F.args_acc_next_1 _))))
theorem pyNext_end {m it l : Addr} {i : Nat} {items : Array Value} {tot : Value} {Q : Option Value → Shared → Prop} (hh : A.handled = none) (hm : IsAcc s.heap m it tot) (hit : s.heap.get? it = some (GNX.itObj l i)) (hl : s.heap.IsList l items) (hx : items[i]? = none)
    (hQ : ∀ h', Heap.ExtBut it s.heap h' → Q none { s with heap := h' }) : wpAny (model prog w) A (pyNext (.ref m)) Q E s := by
  have hT0 : s.TypeIs (.ref m) "itertools.accumulate" := ⟨_, hm, rfl⟩
  unfold pyNext
  refine wpAny_bind (wpAny_attempt (wpAny_callSpecial?_slot (name := Str.ofString "__next__") hT0 F.slot_acc_next
    (wpAny_call_entry F.slot_acc_next hT0 F.entry_acc_next (next_end hh hm hit hl hx fun h' x he' hx' => ?_) (F.args_acc_next_1 _))))
  obtain ⟨o, ho, hc⟩ := hx'
  refine wpAny_bind (wpAny_isInstance (T := "StopIteration") (b := true) ⟨o, ho, hc⟩ isSubtype_stop ?_)
  exact wpAny_pure (hQ _ he')
theorem pyIter_acc {m it : Addr} {tot : Value} {Q : Value → Shared → Prop} (hm : IsAcc s.heap m it tot) (h : Q (.ref m) s) : wpAny (model prog w) A (pyIter (.ref m)) Q E s := by
  have hT : s.TypeIs (.ref m) "itertools.accumulate" := ⟨_, hm, rfl⟩
  refine wpAny_pyIter_slot hT F.slot_acc_iter (wpAny_call_entry F.slot_acc_iter hT F.entry_acc_iter ?_ (F.args_acc_iter_1 _))
  show wpAny _ _ (ret (.ref m)) _ _ s
  exact wpAny_pure ⟨_, rfl, "itertools.accumulate", _, hT, F.slot_acc_next.lookup, h⟩
end
end Acc

namespace Acc
open PySem PySem.Spec PyProof.Rows PySem.Builtin
def IntsOf (items : Array Value) (ns : List Int) : Prop := items.size = ns.length ∧ ∀ (i : Nat) (x : Value), items[i]? = some x → ∃ u, x = Value.int (ns.getD i 0) u
def AccSt (ns : List Int) (m it l : Addr) (items : Array Value) (i : Nat) (s : Shared) : Prop :=
  (∃ tot, IsAcc s.heap m it tot ∧ ((tot = Itertools.itNothing ∧ (ns.take i).sum = 0) ∨ ∃ t, tot = .int (ns.take i).sum t)) ∧ s.heap.get? it = some (GNX.itObj l i) ∧ s.heap.IsList l items
theorem sum_take {ns : List Int} {i : Nat} (h : i < ns.length) : (ns.take i).sum + ns.getD i 0 = (ns.take (i + 1)).sum := by
  rw [List.take_succ_eq_append_getElem h, List.sum_append, List.getD_eq_getElem?_getD, List.getElem?_eq_getElem h]
  simp
theorem walks_acc {prog : Program} {w : World} {A : Around} {m it l : Addr} {items : Array Value} {ns : List Int} (hh : A.handled = none) (hi : IntsOf items ns) (hmi : m ≠ it) (hml : m ≠ l) (hli : l ≠ it) :
    WalksS prog w A m [m, it, l] [m, it] (fun a b => b = a) ns.length (fun i v => ∃ t, v = .int (ns.take (i + 1)).sum t) (fun i s => AccSt ns m it l items i s) where
  sub := fun b hb => by
    rcases List.mem_cons.mp hb with rfl | hb
    · simp
    · rw [List.mem_singleton.mp hb]; simp
  grefl := fun _ => rfl
  gtrans := fun _ _ _ h1 h2 => h2.trans h1
  frame := fun i s h' tk ⟨⟨tot, h1, h2⟩, h3, h4⟩ _ hk => ⟨⟨tot, hk m (by simp) _ h1, h2⟩, hk it (by simp) _ h3, h4.at fun o e => hk l (by simp) o e⟩
  item := fun i s Q E hin ⟨⟨tot, h1, h2⟩, h3, h4⟩ hQ => by
    have hsz : i < items.size := by rw [hi.1]; exact hin
    obtain ⟨u, hu⟩ := hi.2 i items[i] (by simp [hsz])
    have hx : items[i]? = some (.int (ns.getD i 0) u) := by rw [← hu]; simp [hsz]
    refine pyNext_item h1 h3 h4 hx hmi hml hli h2 fun h' tk t' a b c d e => ?_
    rw [sum_take hin] at a ⊢
    exact hQ _ _ ⟨t', rfl⟩ ⟨⟨_, a, .inr ⟨t', rfl⟩⟩, b, c⟩ ⟨fun x o hb e => d x o (fun h => hb (by simp [h])) (fun h => hb (by simp [h])) e, rfl, rfl, rfl, e⟩
  done := fun s Q E ⟨⟨tot, h1, h2⟩, h3, h4⟩ hQ => by
    refine pyNext_end hh h1 h3 h4 (by rw [← hi.1]; simp) fun h' hx => ?_
    exact hQ _ ⟨fun b o hb e => hx b o (fun h => hb (by simp [h])) e, rfl, rfl, rfl, Nat.le_refl _⟩
  self := fun i s Q E ⟨⟨tot, h1, h2⟩, h3, h4⟩ hQ => pyIter_acc h1 hQ
/-! ### accumulate(list) -/
section
variable {prog : Program} {w : World} {A : Around} {E : Value → Shared → Prop} {s : Shared}
theorem classRest (a : Value) : Itertools.itClassAndRest "accumulate" ⟨[.type "itertools.accumulate", a], []⟩ = pure (.type "itertools.accumulate", [a]) := by
  first
  | kernel_rfl
  | (unfold Itertools.itClassAndRest; simp only [isType, F.sub_acc_self, pure_bind, Bool.not_true, Bool.false_eq_true, if_false])
theorem bindNamed (a : Value) : Itertools.itBindNamed "accumulate" ["iterable", "func", "initial"] 1 2 [a] [] = pure [some a, none, none] := by
  first
  | kernel_rfl
  | (unfold Itertools.itBindNamed; simp)
abbrev accO (itv : Value) : Obj := { cls := .type "itertools.accumulate", data := .fields #[itv, .none, Itertools.itNothing, .none] }
theorem new_acc (x : Value) : MeetsIn prog w (Builtin.«itertools.accumulate.__new__» ⟨[.type "itertools.accumulate", x], []⟩)
    (fun A R s => wpAny (model prog w) A.in1 (pyIter x) (fun itv s1 => R (.ok (.ret (.ref s1.heap.objs.size))) { s1 with heap := s1.heap.push (accO itv) }) (fun e s1 => R (.error e) s1) s) :=
  .of_wp fun A R s h => by
    unfold Builtin.«itertools.accumulate.__new__»
    refine wpAny_bind (wpAny_of_eq (classRest _) ?_)
    try dsimp only
    refine wpAny_bind (wpAny_of_eq (bindNamed _) ?_)
    try dsimp only
    refine wpAny_bind (wpAny_mono h (fun itv s1 hR => ?_) fun _ _ z => z)
    try dsimp only [Option.getD]
    unfold Itertools.itNewRecord
    refine wpAny_bind ?_
    rw [if_pos (show (!typeHasDict (.type "itertools.accumulate")) = true by rw [F.noDict_acc]; rfl)]
    show wpAny _ _ (newObj (.type "itertools.accumulate") (.fields #[itv, .none, Itertools.itNothing, .none]) >>= _) _ _ _
    refine wpAny_bind (wpAny_newObj_type ?_)
    exact wpAny_pure (wpAny_pure ⟨_, rfl, hR⟩)
end
end Acc

namespace Acc
open PySem PySem.Spec PyProof.Rows PySem.Builtin
section
variable {prog : Program} {w : World} {A : Around} {E : Value → Shared → Prop} {s : Shared}
abbrev lsO (xs : Array Value) (c : Nat) : Obj := { cls := .type "list", data := .seq xs c }
theorem call_acc {l : Addr} {items : Array Value} {Q : Value → Shared → Prop} (hl : s.heap.IsList l items)
    (hQ : ∀ h', IsAcc h' (s.heap.objs.size + 1) s.heap.objs.size Itertools.itNothing → h'.get? s.heap.objs.size = some (GNX.itObj l 0) → h'.IsList l items → h'.objs.size = s.heap.objs.size + 2 → (∀ b o, s.heap.get? b = some o → h'.get? b = some o) →
      Q (.ref (s.heap.objs.size + 1)) { s with heap := h' }) : wpAny (model prog w) A (call (.type "itertools.accumulate") [.ref l]) Q E s := by
  refine callType_newIn F.called_acc (by decide +kernel) (F.typeCall_acc_1 _) (F.newCall_acc_1 _) (fun obj => F.args_object_init_2 obj _) F.entry_acc_new (new_acc (.ref l)) ?_
  show wpAny (model prog w) A.in1.in1 (pyIter (.ref l)) _ _ _
  refine wpAny_pyIter_list hl ?_
  have z : (s.heap.push (GNX.itObj l 0)).objs.size = s.heap.objs.size + 1 := Heap.size_push ..
  have gm : IsAcc ((s.heap.push (GNX.itObj l 0)).push (accO (.ref s.heap.objs.size))) (s.heap.objs.size + 1) s.heap.objs.size Itertools.itNothing := by
    unfold IsAcc
    rw [← z]; exact Heap.get?_push_size _ rfl
  have hq := hQ _ gm (Heap.get?_push_of_some _ (Heap.get?_push_size _ rfl)) ((hl.push _).push _) (by rw [Heap.size_push, z]) fun c o e => Heap.get?_push_of_some _ (Heap.get?_push_of_some _ e)
  show wants _ _ (.ok (.ret (.ref (s.heap.push (GNX.itObj l 0)).objs.size))) _
  rw [z]
  exact ⟨⟨_, gm, rfl⟩, hq⟩
/-! ### list(it), it what is walked, knows no length and gives no hint -/
theorem hint_true {T : String} {I : Addr} {Q : Bool → Shared → Prop} (t1 : typeLookup (.type T) "__len__" = pure none) (t2 : typeLookup (.type T) "__length_hint__" = pure none) (hT : s.TypeIs (.ref I) T) (h : Q true s) :
    wpAny (model prog w) A (Builtin.List.listLengthHint (.ref I)) Q E s := by
  unfold Builtin.List.listLengthHint
  exact wpAny_bind (wpAny_specialOf hT t1 (wpAny_bind (wpAny_specialOf hT t2 (wpAny_pure h))))
theorem touch_ok {S : Addr} {c : Nat} {Q : Unit → Shared → Prop} (hS : s.heap.get? S = some (lsO #[] c)) (h : ∀ h' c', h'.get? S = some (lsO #[] c') → (∀ b o, b ≠ S → s.heap.get? b = some o → h'.get? b = some o) → Q () { s with heap := h' }) :
    wpAny (model prog w) A (Builtin.List.listTouch (.ref S)) Q E s := by
  have k : ∀ (h : Heap) (f : Array Value → Array Value) b o, b ≠ S → h.get? b = some o → (h.update S (Obj.mapSeq f)).get? b = some o := fun h f b o hb e => (Heap.get?_update_other _ _ (Ne.symm hb)).trans e
  have h2 := Heap.get?_update_self (Obj.mapSeq (·.push Value.none)) hS rfl
  have h3 := Heap.get?_update_self (Obj.mapSeq (·.pop)) h2 rfl
  exact wpAny_bind (wpAny_updateSeq hS rfl (wpAny_updateSeq (hz := by seq_fits) h2 rfl (h _ _ h3 fun b o hb e => k _ _ b o hb (k _ _ b o hb e))))
variable {I : Addr} {fp wr : List Addr} {G : Array GenState → Array GenState → Prop} {n : Nat} {P : Nat → Value → Prop} {St : Nat → Shared → Prop}
theorem fill_walk {R : Result → Shared → Prop} {T : String} {S : Addr} {c : Nat} (t1 : typeLookup (.type T) "__len__" = pure none) (t2 : typeLookup (.type T) "__length_hint__" = pure none) (t3 : (Value.type T == Value.type "list") = false) (t4 : (Value.type T == Value.type "tuple") = false)
    (W : WalksS prog w A.in1 I fp wr G n P St) (hT : ∀ i s, St i s → s.TypeIs (.ref I) T) (hst : St 0 s) (hSf : S ∉ fp) (hI : I ∈ fp) (hn : n ≤ sizeLine) (hS : s.heap.get? S = some (lsO #[] c))
    (hR : ∀ s' acc' c', Moved (S :: wr) G s s' → s'.heap.get? S = some (lsO acc' c') → ItemsOf P acc' n → R (.ok (.ret .none)) s') :
    wpAny (model prog w) A.in1 (Builtin.List.listExtendWith (.ref S) (.ref I) .none)
      (fun fin s' => match fin with | .done f => R (.ok f) s' | .again c' => c'.quiet = true ∧ codeAny (model prog w) A c' R s') (fun e s' => R (.error e) s') s := by
  have hne : Builtin.List.listSameRef (.ref S) (.ref I) = false := beq_eq_false_iff_ne.mpr fun e => hSf (e ▸ hI)
  unfold Builtin.List.listExtendWith
  refine wpAny_bind (wpAny_typeOf (hT 0 _ hst) ?_)
  rw [if_neg (by rw [hne, t3, t4]; decide)]
  refine wpAny_bind (W.self 0 _ _ _ hst (wpAny_bind (wpAny_holding (hint_true t1 t2 (hT 0 _ hst) ?_))))
  rw [if_pos (by rfl)]
  refine wpAny_bind (wpAny_rule ?_)
  refine wpAny_bind (touch_ok hS fun h' c' hS' ho => ?_)
  have kp : Moved (S :: wr) G s { s with heap := h' } := (Moved.refl W.grefl).then_heap (Nat.le_refl _) fun b o hb e => ho b o (fun q => hb (q ▸ List.mem_cons_self)) e
  refine wpAny_pure ⟨plainId_quiet F.plain_extend_loop _, codeAny_extend_loopS W hn _ hSf _ n 0 _ _ _ rfl (Nat.zero_le _) (W.frame 0 s _ s.toks hst (Nat.le_refl _) fun b hb o e => ho b o (fun q => hSf (q ▸ hb)) e) hS' (ItemsOf.nil P) fun s' acc' c2 hm h2 hacc => ?_⟩
  exact hR s' acc' c2 (Moved.trans W.gtrans kp hm) h2 hacc
theorem init_walk {R : Result → Shared → Prop} {T : String} {S : Addr} (t1 : typeLookup (.type T) "__len__" = pure none) (t2 : typeLookup (.type T) "__length_hint__" = pure none) (t3 : (Value.type T == Value.type "list") = false) (t4 : (Value.type T == Value.type "tuple") = false)
    (W : WalksS prog w A.in1 I fp wr G n P St) (hT : ∀ i s, St i s → s.TypeIs (.ref I) T) (hst : St 0 s) (hSf : S ∉ fp) (hI : I ∈ fp) (hn : n ≤ sizeLine) (hS : s.heap.get? S = some (lsO #[] 0))
    (hR : ∀ s' acc' c', Moved (S :: wr) G s s' → s'.heap.get? S = some (lsO acc' c') → ItemsOf P acc' n → R (.ok (.ret .none)) s') :
    wpAny (model prog w) A.in1 (Builtin.«list.__init__» ⟨[.ref S, .ref I], []⟩)
      (fun fin s' => match fin with | .done f => R (.ok f) s' | .again c' => c'.quiet = true ∧ codeAny (model prog w) A c' R s') (fun e s' => R (.error e) s') s := by
  have h2 := Heap.get?_update_self (Obj.mapSeq fun _ => (#[] : Array Value)) hS rfl
  have ho : ∀ b o, b ≠ S → s.heap.get? b = some o → (s.heap.update S (Obj.mapSeq fun _ => (#[] : Array Value))).get? b = some o := fun b o hb e => (Heap.get?_update_other _ _ (Ne.symm hb)).trans e
  have kp : Moved (S :: wr) G s { s with heap := s.heap.update S (Obj.mapSeq fun _ => (#[] : Array Value)) } := (Moved.refl W.grefl).then_heap (Nat.le_refl _) fun b o hb e => ho b o (fun q => hb (q ▸ List.mem_cons_self)) e
  refine wpAny_bind (m := Builtin.List.listItems (.ref S)) ?_
  unfold Builtin.List.listItems
  refine wpAny_bind (wpAny_seqItems hS rfl (wpAny_pure ?_))
  refine wpAny_bind (m := Builtin.List.listUpdate (.ref S) fun _ => #[]) (wpAny_updateSeq hS rfl ?_)
  refine wpAny_bind (wpAny_letGo ?_)
  exact fill_walk t1 t2 t3 t4 W hT (W.frame 0 s _ s.toks hst (Nat.le_refl _) fun b hb o e => ho b o (fun q => hSf (q ▸ hb)) e) hSf hI hn h2 fun s' acc' c' hm a b => hR s' acc' c' (Moved.trans W.gtrans kp hm) a b
theorem list_walk {T : String} {Q : Value → Shared → Prop} (t1 : typeLookup (.type T) "__len__" = pure none) (t2 : typeLookup (.type T) "__length_hint__" = pure none) (t3 : (Value.type T == Value.type "list") = false) (t4 : (Value.type T == Value.type "tuple") = false)
    (W : WalksS prog w A.in1.in1 I fp wr G n P St) (hT : ∀ i s, St i s → s.TypeIs (.ref I) T) (hst : St 0 s) (hfp : ∀ b ∈ fp, b < s.heap.objs.size) (hI : I ∈ fp) (hn : n ≤ sizeLine)
    (hQ : ∀ s' acc' c', Moved (s.heap.objs.size :: wr) G { s with heap := s.heap.push (lsO #[] 0) } s' → s'.heap.get? s.heap.objs.size = some (lsO acc' c') → ItemsOf P acc' n → Q (.ref s.heap.objs.size) s') :
    wpAny (model prog w) A (call (.type "list") [.ref I]) Q E s := by
  refine callType_codes F.called_list (F.typeCall_list_1 _) F.entry_list_init (code_list_new (Q₁ := fun obj s₁ => obj = .ref s.heap.objs.size ∧ s₁ = { s with heap := s.heap.push (lsO #[] 0) }) _ ⟨rfl, rfl⟩) ?_
  rintro obj s₁ ⟨rfl, rfl⟩
  have hS : (s.heap.push (lsO #[] 0)).get? s.heap.objs.size = some (lsO #[] 0) := Heap.get?_push_size _ rfl
  exact ⟨⟨_, hS, rfl⟩, F.args_list_init_2 _ _, init_walk t1 t2 t3 t4 W hT (W.frame 0 s _ s.toks hst (Nat.le_refl _) fun b _ o e => Heap.get?_push_of_some _ e) (fun q => Nat.lt_irrefl _ (hfp _ q)) hI hn hS fun s' acc' c' a b d => ⟨rfl, hQ s' acc' c' a b d⟩⟩
end
end Acc

/-! list(accumulate(xs)), xs a list of ints -/
namespace DL
open PySem PySem.Spec PyProof.Rows L2
def psums (ns : List Int) : List Int := (List.range ns.length).map fun i => (ns.take (i + 1)).sum
theorem psums_len (ns : List Int) : (psums ns).length = ns.length := by simp [psums]
theorem vals_ps {ns : List Int} {acc : Array Value} (h : ItemsOf (fun i v => ∃ t, v = .int (ns.take (i + 1)).sum t) acc ns.length) : Vals ((psums ns).map V.int) acc.toList := by
  have e : acc.toList.length = ns.length := by rw [Array.length_toList]; exact h.1
  have e2 : (psums ns).map V.int = (List.range acc.toList.length).map fun i => V.int (ns.take (i + 1)).sum := by
    unfold psums; rw [List.map_map, e]; rfl
  rw [e2]
  refine vals_of_get acc.toList _ fun j u hj => ?_
  obtain ⟨t, rfl⟩ := h.2 j u (by rw [← hj, Array.getElem?_toList])
  exact ⟨t, rfl⟩
theorem ints_of {its : List Value} {ns : List Int} (h : IntsAre its ns) (hl : its.length = ns.length) : Acc.IntsOf its.toArray ns := by
  refine ⟨by simpa using hl, fun i x hx => ?_⟩
  have hx : its[i]? = some x := by simpa using hx
  have hi : i < ns.length := by rw [← hl]; exact (List.getElem?_eq_some_iff.mp hx).1
  obtain ⟨t, ht⟩ := h.get i ns[i] (List.getElem?_eq_getElem hi)
  rw [hx] at ht
  exact ⟨t, by rw [Option.some.inj ht, List.getD_eq_getElem?_getD, List.getElem?_eq_getElem hi]; rfl⟩
section
variable {X : Cx} {tb : Addr → Prop} {W : WX} {pos : Pos}
def tLstAcc (K : PySem.W.Frag) (te : TE) : TE := fun σ H Q => te σ H fun x H1 => ∃ a ns, x = .ref a ∧ SqL K H1 a (ns.map V.int) ∧ ∀ q, H1 q = none → Q (.ref q) (upd H1 q (.lst ((psums ns).map V.int)))
theorem pe_listAcc {e : Expr} {te : TE} {p p2 pos2 : Pos} (hc : X.calm = true) (hg : Gl X "list") (hm : X.mg "list" = none) (hg2 : Gl X "accumulate") (hm2 : X.mg "accumulate" = some (.type "itertools.accumulate")) (he : PE X e te)
    (na2 : starEach [e] X.env = (false, eval e X.env) :: starEach [] X.env := by rfl)
    (na : starEach [.Call (.Name "accumulate" p2) [e] [] pos2] X.env = (false, eval (.Call (.Name "accumulate" p2) [e] [] pos2) X.env) :: starEach [] X.env := by rfl) :
    PE X (.Call (.Name "list" p) [.Call (.Name "accumulate" p2) [e] [] pos2] [] pos) (tLstAcc X.K te) := by
  refine ⟨fun pins s σ H Q I h => ?_⟩
  refine Call_ (ld_blt I hg hm boot_list (callWith_type1 (args_cons (Call_ (ld_glob I hg2 hm2 (callWith_type1 (args_cons (thn (he.run pins s σ H _ I h) fun x s1 ⟨xv, H1, I1, r1, a, ns, e1, hs, q⟩ => args_nil ?_) na2) na2))) na) na))
  subst e1
  cases r1
  obtain ⟨its, rv, hl, hz⟩ := I1.list hs
  have hh : X.A.handled = none := I1.ok.hd hc
  have hlen : its.length = ns.length := by rw [← rv.length, List.length_map]
  have la : a < s1.heap.objs.size := by obtain ⟨o, ho, _⟩ := hl.isList; exact Heap.lt_size ho
  refine Acc.call_acc hl.isList fun h' gm gi hl' hsz hk => ?_
  refine args_nil ?_
  have W := Acc.walks_acc (prog := X.prog) (w := X.w) (A := X.A.in1.in1) (m := s1.heap.objs.size + 1) (it := s1.heap.objs.size) (l := a) (items := its.toArray) (ns := ns) hh (ints_of rv.ints hlen) (Nat.succ_ne_self _) (Nat.ne_of_gt (Nat.lt_succ_of_lt la)) (Nat.ne_of_lt la)
  refine Acc.list_walk F.acc_no_len F.acc_no_hint (by decide) (by decide) W (fun i s2 st => let ⟨⟨_, h1, _⟩, _⟩ := st; ⟨_, h1, rfl⟩) ⟨⟨_, gm, .inl ⟨rfl, rfl⟩⟩, gi, hl'⟩ (fun b hb => ?_) (by simp) (by rw [List.length_map] at hz; exact hz) fun s' acc c' hm hS hacc => ?_
  · show b < h'.objs.size
    have : b = s1.heap.objs.size + 1 ∨ b = s1.heap.objs.size ∨ b = a := by simpa using hb
    rw [hsz]
    rcases this with rfl | rfl | rfl
    · exact Nat.lt_succ_self _
    · exact Nat.lt_succ_of_lt (Nat.lt_succ_self _)
    · exact Nat.lt_succ_of_lt (Nat.lt_succ_of_lt la)
  · rw [Moved.eq_with hm]
    have k : ∀ b u, s1.heap.get? b = some u → s'.heap.get? b = some u := fun b u e => by
      have hb := Heap.lt_size e
      refine hm.heap b u (fun hmem => ?_) (Heap.get?_push_of_some _ (hk b u e))
      have : b = h'.objs.size ∨ b = s1.heap.objs.size + 1 ∨ b = s1.heap.objs.size := by simpa using hmem
      rcases this with r | r | r
      · rw [r, hsz] at hb; exact Nat.not_lt_of_le (Nat.le_add_right _ 2) hb
      · rw [r] at hb; exact Nat.not_lt_of_le (Nat.le_succ _) hb
      · rw [r] at hb; exact Nat.lt_irrefl _ hb
    have hle : s1.heap.objs.size ≤ h'.objs.size := by rw [hsz]; exact Nat.le_add_right _ 2
    refine ⟨.ref h'.objs.size, upd H1 h'.objs.size (.lst ((psums ns).map V.int)), I1.laid (t' := s'.toks) k hle (show ObjOk X.prog X.w _ _ _ (.lst _) from ⟨?_, acc.toList, c', vals_ps hacc, ?_⟩), rfl, q _ (I1.hok.fresh hle)⟩
    · rw [List.length_map, psums_len]; rw [List.length_map] at hz; exact hz
    · rw [Array.toArray_toList]; exact hS
def eLstAcc (mk : List D → Cm D) (fa : Sl → Cm D) : Sl → Cm D := fun sl => (fa sl).bind fun d => (Cm.look fun μ => (dL μ d).bind intsD).bind fun ns => mk ((psums ns).map D.int)
theorem de_listAcc {a : Expr} {fa : Sl → Cm D} {p p2 pos2 : Pos} {mk : List D → Cm D} (hmk : MkL (gx X tb) mk) (hc : X.calm = true) (hg : Gl X "list") (hm : X.mg "list" = none) (hg2 : Gl X "accumulate") (hm2 : X.mg "accumulate" = some (.type "itertools.accumulate")) (ha : DE X tb W a fa)
    (na2 : starEach [a] X.env = (false, eval a X.env) :: starEach [] X.env := by rfl)
    (na : starEach [.Call (.Name "accumulate" p2) [a] [] pos2] X.env = (false, eval (.Call (.Name "accumulate" p2) [a] [] pos2) X.env) :: starEach [] X.env := by rfl) :
    DE X tb W (.Call (.Name "list" p) [.Call (.Name "accumulate" p2) [a] [] pos2] [] pos) (eLstAcc mk fa) :=
  (pe_listAcc hc hg hm hg2 hm2 ha na2 na).imp fun σ H Q ⟨sl, ρ, hs, hcf⟩ => ⟨sl, ρ, hs, (Cfg.bind (Rq := rV X.K) hcf).imp fun v H1 ⟨ρ1, d, r, x, k, c⟩ => by
    obtain ⟨μ, q, μ', hM, hC, hE⟩ := c
    rcases bind_inv hC with ⟨ns, μ1, h1, h2⟩ | ⟨z, μ1, h1, h2⟩
    · obtain ⟨ys, e, e2, rfl⟩ := look_inv h1
      cases e2
      cases e1 : dL μ1 d with
      | none => rw [e1] at e; cases e
      | some xs =>
        rw [e1] at e
        have e : intsD xs = some ns := e
        obtain ⟨a, vs, rfl, h3, r1⟩ := hM.dL r e1
        have := ints_rep e r1
        subst this
        exact ⟨a, ns, rfl, Rd.seq h3, fun p hn => hmk _ _ _ _ _ _ (ints_reps _) ⟨_, q, μ', hM, h2, hE⟩ p hn⟩
    · obtain ⟨ys, e, e2, rfl⟩ := look_inv h1
      cases e2⟩
end
end DL

namespace DL
open PySem PySem.Spec PyProof.Rows L2
/-! ## dicts: displays, subscripts -/
theorem putK_far {kvs : List (Key × V)} {k : Key} {v : V} (h : k ∉ kvs.map (·.1)) : putK kvs k v = kvs ++ [(k, v)] := by
  refine putK_new v ?_
  induction kvs with
  | nil => exact valV_nil
  | cons p r ih =>
    rw [List.map_cons, List.mem_cons, not_or] at h
    rw [valV_neg (fun e => h.1 e.symm)]
    exact ih h.2
theorem mergeK_far : ∀ (more kvs : List (Key × V)), (kvs.map (·.1) ++ more.map (·.1)).Nodup → mergeK kvs more = kvs ++ more
  | [], kvs, _ => (List.append_nil _).symm
  | p :: r, kvs, h => by
    show mergeK (putK kvs p.1 p.2) r = _
    have h1 : p.1 ∉ kvs.map (·.1) := fun e => by
      have := (List.nodup_append.mp h).2.2 _ e _ List.mem_cons_self
      exact this rfl
    rw [putK_far h1, mergeK_far r _ (by rw [List.map_append, List.append_assoc]; exact h), List.append_assoc]; rfl
theorem zip_keys : ∀ (ks : List Key) (vs : List V), ks.length = vs.length → (ks.zip vs).map (·.1) = ks
  | [], _, _ => rfl
  | k :: ks, [], e => by cases e
  | k :: ks, v :: vs, e => by rw [List.zip_cons_cons, List.map_cons, zip_keys ks vs (by simpa using e)]
theorem zip_kV : ∀ (ks : List Key) (vs : List V), (ks.map kV).zip vs = (ks.zip vs).map fun kv => (kV kv.1, kv.2)
  | [], _ => rfl
  | k :: ks, [] => rfl
  | k :: ks, v :: vs => by rw [List.map_cons, List.zip_cons_cons, List.zip_cons_cons, List.map_cons, zip_kV ks vs]
section
variable {X : Cx} {tb : Addr → Prop} {W : WX} {pos : Pos}
structure DPs (X : Cx) (tb : Addr → Prop) (W : WX) (pos : Pos) (keys : List (Option Expr)) (values : List Expr) (ks : List Key) (f : Sl → Cm (List D)) : Prop where
  tr : ∃ trs : List (TE × TE), PPs X pos keys values trs ∧ ∀ σ H (Q : List V → Hp → Prop) (P : List (V × V) → Hp → Prop), rd (gx X tb) (rVs X.K) W f σ H Q →
    (∀ vs H2, ks.length = vs.length → Q vs H2 → P ((ks.map kV).zip vs) H2) → tPairs trs σ H P
theorem dps_nil : DPs X tb W pos [] [] [] aNil := ⟨[], pps_nil, fun σ H Q P ⟨sl, ρ, hs, hc⟩ h => h [] H rfl (hc.ok [] .nil)⟩
theorem dps_cons {kx vx : Expr} {keys : List (Option Expr)} {values : List Expr} {k : Key} {ks : List Key} {f : Sl → Cm D} {g : Sl → Cm (List D)} (hk : PE X kx (tC (kV k))) (hv : DE X tb W vx f) (hr : DPs X tb W pos keys values ks g) :
    DPs X tb W pos (some kx :: keys) (vx :: values) (k :: ks) (aCons f g) := by
  obtain ⟨trs, hp, hq⟩ := hr
  refine ⟨_, pps_cons hk hv hp, fun σ H Q P ⟨sl, ρ, hs, hc⟩ h => ?_⟩
  show rd (gx X tb) (rV X.K) W f σ H fun y H2 => tPairs trs σ H2 fun ps H3 => P ((kV k, y) :: ps) H3
  refine ⟨sl, ρ, hs, (Cfg.bind (Rq := rV X.K) hc).imp fun v H1 ⟨ρ1, d, r, x1, k1, c⟩ => ?_⟩
  refine hq σ H1 (fun vs H3 => Q (v :: vs) H3) _ ⟨sl, ρ1, hs.step x1 k1, (Cfg.bind (Rq := rVs X.K) c).imp fun vs H2 ⟨ρ2, ds, rs, x2, k2, c2⟩ => c2.ok (v :: vs) (.cons (DRep.step x2 k2 d v r) rs)⟩ fun vs H2 hl q => ?_
  exact h (v :: vs) H2 (by simp [hl]) q
abbrev MkD (G : Gx) (ks : List Key) (mk : List D → Cm D) : Prop := ∀ ρ1 H1 ρf Hf μ1 μf p vs ds r μ', MuRep G H1 ρ1 μ1 → Step G ρ1 H1 ρf Hf μf → Hf p = some (.dK (ks.zip vs)) → ks.length = vs.length → H1 p = none → p ∈ ρf.rs → DReps G.K Hf ρf vs ds → mk ds μf = some (r, μ') →
  ∃ d ρ', r = .ok d ∧ Step G ρ1 H1 ρ' Hf μ' ∧ DRep G.K Hf ρ' (.ref p) d
def oDic (ks : List Key) (ds : List D) : Cm D := Cm.ok (.dic ks ds)
def oDicM (ks : List Key) (ds : List D) : Cm D := fun μ => some (.ok (.mref μ.length), μ ++ [some (.dic ks ds)])
theorem mkd_dic {G : Gx} {ks : List Key} : MkD G ks (oDic ks) := fun ρ1 H1 ρf Hf μ1 μf p vs ds r μ' m1 st h hl h1 hp rs e => by
  cases e
  have np := m1.fresh h1
  have m := st.mu
  have hs := st.ext.sub
  refine ⟨_, ρf.cut ρ1.rs, rfl, ⟨⟨st.ext.len, st.ext.old, fun a ha => .inl ha, fun a ha => ha⟩, st.keep, ⟨m.len, fun i mo e => let ⟨a, e1, e2⟩ := m.at_ i mo e; ⟨a, e1, MORep.shift (shift_cut hs) e2⟩, m.dead, m.inj, fun a ha => m.res a (hs a ha), m.tb⟩⟩, ?_⟩
  exact .dic h ⟨(m.res p hp).2, np.2⟩ hl (DReps.shift (shift_cut hs) ds vs rs)
theorem mkd_dicM {G : Gx} {ks : List Key} : MkD G ks (oDicM ks) := fun ρ1 H1 ρf Hf μ1 μf p vs ds r μ' m1 st h hl h1 hp rs e => by
  cases e
  have np := m1.fresh h1
  obtain ⟨m2, q⟩ := resv_liveO (rs := ρ1.rs) (mo := .dic ks ds) st.mu hp st.ext.sub ⟨vs, h, hl, rs⟩ np.2
  refine ⟨_, (ρf.cut ρ1.rs).add p, rfl, ⟨⟨?_, fun i a e => ?_, fun a ha => .inl ha, fun a ha => ha⟩, st.keep, m2⟩, q⟩
  · have := st.ext.len
    simp [Rho.add, Rho.cut]
    omega
  · rcases add_at e with q | ⟨q1, q2⟩
    · exact st.ext.old i a q
    · have := st.ext.len
      have q1 : i = ρf.hs.length := q1
      exact .inr ⟨by omega, by rw [q2]; exact h1⟩
theorem MuRep.updrD {G : Gx} {H : Hp} {ρ : Rho} {μ : Mu} {p : Addr} {o0 o : HO} (m : MuRep G H ρ μ) (hp : p ∈ ρ.rs) (h : H p = some o0) (ht : ∀ ps, o0 ≠ .tbl ps) : MuRep G (upd H p o) ρ μ := by
  have nh := (m.res p hp).2
  refine ⟨m.len, fun i mo e => ?_, m.dead, m.inj, fun a ha => ?_, fun P hP => ?_⟩
  · obtain ⟨a, e1, e2⟩ := m.at_ i mo e
    have ne : a ≠ p := fun z => nh i (by rw [← z]; exact e1)
    refine ⟨a, e1, ?_⟩
    cases mo with
    | lst ds => obtain ⟨vs, h1, h2⟩ := e2; exact ⟨vs, by rw [upd_ne ne]; exact h1, DReps.updr hp ds vs h2⟩
    | ins c fs => obtain ⟨C, dx, vs, h0, h1, h2, h3⟩ := e2; exact ⟨C, dx, vs, h0, by rw [upd_ne ne]; exact h1, h2, DReps.updr hp _ vs h3⟩
    | dic ks ds => obtain ⟨vs, h1, h2, h3⟩ := e2; exact ⟨vs, by rw [upd_ne ne]; exact h1, h2, DReps.updr hp ds vs h3⟩
    | dit ks ds => obtain ⟨vs, h1, h2, h3⟩ := e2; exact ⟨vs, by rw [upd_ne ne]; exact h1, h2, DReps.updr hp ds vs h3⟩
  · obtain ⟨⟨u, h1⟩, h2⟩ := m.res a ha
    by_cases e : a = p
    · exact ⟨⟨_, by rw [e]; exact upd_same⟩, h2⟩
    · exact ⟨⟨u, by rw [upd_ne e]; exact h1⟩, h2⟩
  · obtain ⟨ps, h1, h2⟩ := m.tb P hP
    exact ⟨ps, by rw [upd_ne (fun e => by rw [e, h] at h1; cases h1; exact ht ps rfl)]; exact h1, h2⟩
/-- a display of keys that are written -/
theorem de_disp {keys : List (Option Expr)} {values : List Expr} {ks : List Key} {mk : List D → Cm D} {fs : Sl → Cm (List D)} (hmk : MkD (gx X tb) ks mk) (hn : ks.Nodup) (h15 : ks.length ≤ 15) (hall : keys.all (·.isSome) = true) (hl : keys.length = values.length) (h0 : keys ≠ []) (h15' : keys.length ≤ 15)
    (hv : DPs X tb W pos keys values ks fs) : DE X tb W (.Dict keys values pos) (eCB mk fs) := by
  obtain ⟨trs, hp, hq⟩ := hv
  refine (pe_disp hp hall hl h0 h15').imp fun σ H Q ⟨sl, ρ, hs, μ, r, μ', hm, hc, he⟩ => ?_
  intro p np
  have st0 := resv_new (o := .dK []) hm np
  refine hq σ _ (fun vs H2 => ∃ ρ2 ds μ2, Step (gx X tb) ρ H ρ2 H2 μ2 ∧ p ∈ ρ2.rs ∧ H2 p = some (.dK []) ∧ DReps X.K H2 ρ2 vs ds ∧ mk ds μ2 = some (r, μ')) _ ⟨sl, ρ.resv p, hs.step st0.ext st0.keep, ?_⟩ ?_
  · rcases bind_inv hc with ⟨ds, μ1, h1, h2⟩ | ⟨x, μ1, h1, h2⟩
    · refine ⟨μ, .ok ds, μ1, st0.mu, h1, fun vs H2 ρ2 st rr => ?_⟩
      exact ⟨ρ2, ds, μ1, st0.trans st, st.ext.sub _ List.mem_cons_self, st.keep.keep _ _ upd_same (st0.mu.res p List.mem_cons_self).2 trivial, rr, h2⟩
    · cases h2
      exact ⟨μ, .ex x, _, st0.mu, h1, fun cls dd H2 ρ2 st xx => he cls dd H2 ρ2 (st0.trans st) xx⟩
  · rintro vs H2 hlen ⟨ρ2, ds, μ2, st, hin, hp2, rs, hmk2⟩
    refine ⟨hp2, ks.zip vs, zip_kV ks vs, by rw [List.length_zip]; omega, ?_⟩
    have hz : mergeK [] (ks.zip vs) = ks.zip vs := by
      rw [mergeK_far _ _ (by rw [zip_keys ks vs hlen]; exact hn)]; rfl
    rw [hz]
    have st3 : Step (gx X tb) ρ H ρ2 (upd H2 p (.dK (ks.zip vs))) μ2 := ⟨st.ext, ⟨fun b o eb nb tb' => by rw [upd_ne (ne_of_none eb np)]; exact st.keep.keep b o eb nb tb', fun b o eb => by rw [upd_ne (ne_of_none eb np)]; exact st.keep.dom b o eb⟩, st.mu.updrD hin hp2 (fun ps e => by cases e)⟩
    obtain ⟨d, ρ3, rfl, st4, r4⟩ := hmk ρ H ρ2 _ μ μ2 p vs ds r μ' hm st3 upd_same hlen np hin (DReps.updr hin _ _ rs) hmk2
    exact he _ _ ρ3 st4 r4
/-! ### reading -/
def dicD (μ : Mu) : D → Option (List Key × List D)
  | .dic ks xs => some (ks, xs)
  | .mref h => match μ[h]? with
    | some (some (.dic ks xs)) => some (ks, xs)
    | _ => none
  | _ => none
def keyD : D → Option Key
  | .int i => some (.inl i)
  | .str z => some (.inr z)
  | _ => none
def lkD : List Key → List D → Key → Option D
  | k :: ks, d :: ds, j => if k = j then some d else lkD ks ds j
  | _, _, _ => none
theorem lkD_V {K : PySem.W.Frag} {H : Hp} {ρ : Rho} (j : Key) : ∀ (ks : List Key) {vs : List V} {ds : List D}, ks.length = vs.length → DReps K H ρ vs ds → (∀ d, lkD ks ds j = some d → ∃ v, valV (ks.zip vs) j = some v ∧ DRep K H ρ v d) ∧ (lkD ks ds j = none → valV (ks.zip vs) j = none)
  | [], _, _, _, _ => ⟨fun d e => by simp [lkD] at e, fun _ => rfl⟩
  | k :: ks, [], _, e, _ => by cases e
  | k :: ks, v :: vs, _, e, .cons r rs => by
    obtain ⟨ih1, ih2⟩ := lkD_V j ks (by simpa using e) rs
    by_cases h : k = j
    · refine ⟨fun d e => ?_, fun e => ?_⟩
      · unfold lkD at e; rw [if_pos h] at e; cases e
        exact ⟨v, valV_pos (p := (k, v)) h, r⟩
      · unfold lkD at e; rw [if_pos h] at e; cases e
    · refine ⟨fun d e => ?_, fun e => ?_⟩
      · unfold lkD at e; rw [if_neg h] at e
        obtain ⟨v', h1, h2⟩ := ih1 d e
        exact ⟨v', by rw [List.zip_cons_cons, valV_neg h]; exact h1, h2⟩
      · unfold lkD at e; rw [if_neg h] at e
        rw [List.zip_cons_cons, valV_neg h]; exact ih2 e
theorem MuRep.dicD {G : Gx} {H : Hp} {ρ : Rho} {μ : Mu} (m : MuRep G H ρ μ) {v : V} {d : D} {ks : List Key} {xs : List D} (r : DRep G.K H ρ v d) (e : dicD μ d = some (ks, xs)) : ∃ a vs, v = .ref a ∧ H a = some (.dK (ks.zip vs)) ∧ ks.length = vs.length ∧ DReps G.K H ρ vs xs := by
  cases d with
  | dic ks' ds => cases r with | dic h n l rs => cases e; exact ⟨_, _, rfl, h, l, rs⟩
  | mref h =>
    have e : (match μ[h]? with | some (some (.dic ks xs)) => some (ks, xs) | _ => none) = some (ks, xs) := e
    cases q : μ[h]? with
    | none => rw [q] at e; cases e
    | some o =>
      cases o with
      | none => rw [q] at e; cases e
      | some mo =>
        cases mo with
        | dic ks' ds' =>
          rw [q] at e; cases e
          obtain ⟨a, e1, vs, h1, h2, h3⟩ := m.at_ h _ q
          cases r with
          | mref hl ha =>
            have := ha a e1
            subst this
            exact ⟨_, vs, rfl, h1, h2, h3⟩
        | lst ds => rw [q] at e; cases e
        | ins c fs => rw [q] at e; cases e
        | dit ks ds => rw [q] at e; cases e
  | _ => cases e
theorem keyD_V {K : PySem.W.Frag} {H : Hp} {ρ : Rho} {v : V} {d : D} {k : Key} (r : DRep K H ρ v d) (e : keyD d = some k) : v = kV k := by
  cases d with
  | int i => cases r; cases e; rfl
  | str z => cases r; cases e; rfl
  | _ => cases e
def oDget (x y : D) : Cm D := Cm.look fun μ => (dicD μ x).bind fun p => (keyD y).bind fun k => lkD p.1 p.2 k
theorem de_dget {a b : Expr} {fa fb : Sl → Cm D} (hu : X.A.units + 1 < cLine) (hs : NoSl b) (ha : DE X tb W a fa) (hb : DE X tb W b fb) : DE X tb W (.Subscript a b pos) (eOp2 oDget fa fb) :=
  (pe_dget hu ha hb hs).imp fun σ H Q ⟨sl, ρ, hs, hc⟩ => ⟨sl, ρ, hs, (Cfg.bind (Rq := rV X.K) hc).imp fun x H1 ⟨ρ1, dx, rx, x1, k1, c1⟩ =>
    ⟨sl, ρ1, hs.step x1 k1, (Cfg.bind (Rq := rV X.K) c1).imp fun y H2 ⟨ρ2, dy, ry, x2, k2, c2⟩ => by
      obtain ⟨μ, r, μ', hm, e, he⟩ := c2
      obtain ⟨d, e1, rfl, rfl⟩ := look_inv e
      cases e2 : dicD μ' dx with
      | none => rw [e2] at e1; cases e1
      | some p =>
        obtain ⟨ks, xs⟩ := p
        rw [e2, Option.bind_some] at e1
        cases e3 : keyD dy with
        | none => rw [e3] at e1; cases e1
        | some k =>
          rw [e3, Option.bind_some] at e1
          obtain ⟨a', vs, rfl, h1, h2, h3⟩ := hm.dicD (DRep.step x2 k2 dx _ rx) e2
          obtain ⟨v, h4, h5⟩ := (lkD_V k ks h2 h3).1 d e1
          refine ⟨a', v, rfl, ?_, he v H2 ρ2 (.refl hm) h5⟩
          rw [keyD_V ry e3, ← h4]
          exact DGet.k h1⟩⟩
end
end DL

namespace DL
open PySem PySem.Spec PyProof.Rows L2
/-! ## sorted of a tuple of ints -/
def rSortedA (K : PySem.W.Frag) : List V → Hp → VK → Prop := fun vs H Q => rSortedI K vs H Q ∨ rSortedIT K vs H Q
theorem cr_sortedA {X : Cx} : CallR X (.builtin "sorted") (rSortedA X.K) := fun pins s σ H vs us Q I r h => h.elim (cr_sortedI pins s σ H vs us Q I r) (cr_sortedIT pins s σ H vs us Q I r)
def oSortA (mk : List D → Cm D) : List D → Cm D
  | [.tup xs] => (Cm.lift (intsD xs)).bind fun ns => mk ((sortI ns).map D.int)
  | ds => oSortI mk ds
theorem sem_sortA {G : Gx} {mk : List D → Cm D} (hmk : MkL G mk) : SemC G (oSortA mk) (rSortedA G.K) := by
  intro W ρ H xs ds Q rs c
  unfold oSortA at c
  split at c
  · rename_i zs
    obtain ⟨v, rfl, r⟩ := reps1 rs
    obtain ⟨μ, q, μ', hm, hc, he⟩ := c
    rcases bind_inv hc with ⟨ns, μ1, h1, h2⟩ | ⟨x, μ1, h1, h2⟩
    · obtain ⟨ys, e, e2, rfl⟩ := lift_inv h1
      cases e2
      cases r with
      | @tup a vs ds i rs =>
        have := ints_rep e rs
        subst this
        refine .inr ⟨a, ns, rfl, i.seq, fun ms p hp hs hn => ?_⟩
        rw [sortI_of hp hs]
        exact hmk W ρ H _ _ Q (ints_reps _) ⟨_, q, μ', hm, h2, he⟩ p hn
    · obtain ⟨ys, e, e2, rfl⟩ := lift_inv h1
      cases e2
  · exact .inl (sem_sortI hmk W ρ H _ _ Q rs c)
/-! ## methods of tuples -/
def ckT (_ : Mu) : D → Bool
  | .tup _ => true
  | _ => false
abbrev CkK (G : Gx) (ck : Mu → D → Bool) : Prop := ∀ H ρ μ v d, MuRep G H ρ μ → DRep G.K H ρ v d → ck μ d = true → KnT G.K v H
theorem ckT_ok {G : Gx} : CkK G ckT := fun H ρ μ v d m r e => by
  cases d with
  | tup xs =>
    cases r with
    | @tup a vs ds i rs =>
      rcases i with ⟨⟨o, h1, h2⟩, _⟩ | ⟨o, its, n, h1, h2, h3, h4, h5, h6⟩
      · exact ⟨a, rfl, .inl ⟨vs, o, h1, h2⟩⟩
      · exact ⟨a, rfl, .inr ⟨o, h1, h2, h6⟩⟩
  | _ => cases e
theorem rd_bmT {X : Cx} {tb : Addr → Prop} {W : WX} {ck : Mu → D → Bool} {o : D → List D → Cm D} {r : V → List V → Hp → VK → Prop} (hck : CkK (gx X tb) ck) (sem : SemM (gx X tb) o r) {fo : Sl → Cm D} {fs : Sl → Cm (List D)} {σ : L2.St} {H : Hp} {Q : VK}
    (h : rd (gx X tb) (rV X.K) W (eBM ck o fo fs) σ H Q) : tBMT X.K r (rd (gx X tb) (rV X.K) W fo) (rd (gx X tb) (rVs X.K) W fs) σ H Q := by
  obtain ⟨sl, ρ, hs, hc⟩ := h
  refine ⟨sl, ρ, hs, (Cfg.bind (Rq := rV X.K) hc).imp fun v H1 ⟨ρ1, d, rv, x1, k1, c1⟩ => ?_⟩
  have look : ∃ μ, MuRep (gx X tb) H1 ρ1 μ ∧ ck μ d = true ∧ Cfg (gx X tb) (rV X.K) (fun c d H' => W c d σ H') ρ1 H1 ((fs sl).bind fun ys => o d ys) Q := by
    obtain ⟨μ, q, μ', hm, hc, he⟩ := c1
    rcases bind_inv hc with ⟨x, μ1, h1, h2⟩ | ⟨x, μ1, h1, h2⟩
    · obtain ⟨a, e1, e2, rfl⟩ := look_inv h1
      cases e2
      by_cases hb : ck μ1 d = true
      · rw [if_pos hb] at e1
        cases e1
        exact ⟨_, hm, hb, _, q, μ', hm, h2, he⟩
      · rw [if_neg hb] at e1; cases e1
    · obtain ⟨a, e1, e2, rfl⟩ := look_inv h1
      cases e2
  obtain ⟨μ, hm, hb, c2⟩ := look
  refine ⟨hck H1 ρ1 μ v d hm rv hb, sl, ρ1, hs.step x1 k1, (Cfg.bind (Rq := rVs X.K) c2).imp fun vs H2 ⟨ρ2, ds, rs, x2, k2, c3⟩ => ?_⟩
  exact sem _ ρ2 H2 v d vs ds Q (DRep.step x2 k2 d v rv) rs c3
theorem de_bmT {X : Cx} {tb : Addr → Prop} {W : WX} {id : String} {name : Str} {apos cpos : Pos} {ck : Mu → D → Bool} {o : D → List D → Cm D} {r : V → List V → Hp → VK → Prop} {ob e : Expr} {es : List Expr} {fo : Sl → Cm D} {fs : Sl → Cm (List D)} (pa : PlainAttrs "tuple") (slot : Slot "tuple" name id) (hty : typeOf (.builtin id) = pure (.type "method_descriptor")) (hm : MtR X id r)
    (hck : CkK (gx X tb) ck) (sem : SemM (gx X tb) o r) (ho : DE X tb W ob fo) (ha : DA X tb W (e :: es) fs)
    (hbase : attributeBase ob name X.env (eval ob X.env) = eval ob X.env := by rfl)
    (hfew : ((backTo cpos (starEach (e :: es) X.env)).all (fun x => !x.1) && (backToKw cpos (keywordEach [] X.env)).all (fun x => x.1.isSome) && decide ((e :: es).length + ([] : List Keyword).length + (if ([] : List Keyword).isEmpty then 0 else 1) < 30)) = true := by rfl)
    (hline : (apos.endLine == cpos.line) = true := by rfl) (hs : starEach (e :: es) X.env = (false, eval e X.env) :: starEach es X.env := by rfl) (hplain : (backTo cpos (starEach es X.env)).any (·.1) = false := by rfl) :
    DE X tb W (.Call (.Attribute ob name apos) (e :: es) [] cpos) (eBM ck o fo fs) :=
  (pe_bmT pa slot hty hm ho ha hbase hfew hline hs hplain).imp fun σ H Q h => rd_bmT hck sem h
def oIndexT (x : D) (ds : List D) : Cm D := match x, ds with
  | .tup xs, [y] => if flD y = true ∧ xs.all flD = true then Cm.lift ((firstF y xs).map fun j : Nat => D.int (j : Int)) else Cm.fail
  | _, _ => Cm.fail
theorem sem_indexT {G : Gx} : SemM G oIndexT (rIndexT G.K) := by
  intro W ρ H x dx xs ds Q rx rs c
  unfold oIndexT at c
  split at c
  · rename_i zs y
    obtain ⟨w, rfl, rw'⟩ := reps1 rs
    by_cases h : flD y = true ∧ zs.all flD = true
    · rw [if_pos h] at c
      obtain ⟨d, e, c⟩ := c.lift
      cases e2 : firstF y zs with
      | none => rw [e2] at e; cases e
      | some j =>
        rw [e2] at e
        cases e
        cases rx with
        | @tup a vs ds i r1 =>
          obtain ⟨⟨d', g1, g2⟩, g3⟩ := firstF_is e2
          obtain ⟨v, k1, k2⟩ := r1.get g1
          have all := List.all_eq_true.mp h.2
          refine ⟨a, vs, w, j, v, rfl, rfl, i.seq, fl_rep rw' h.1, fl_reps r1 h.2, k1, ?_, fun m z' hm' ez => ?_, c.ok _ (.int _)⟩
          · rw [eqF_rep k2 rw' (all _ (List.mem_of_getElem? g1)) h.1]; exact g2
          · have hml : m < zs.length := by
              have := (List.getElem?_eq_some_iff.mp ez).1
              rw [r1.length] at this; exact this
            obtain ⟨v', k3, k4⟩ := r1.get (List.getElem?_eq_getElem hml)
            rw [ez] at k3
            cases k3
            rw [eqF_rep k4 rw' (all _ (List.getElem_mem hml)) h.1]
            exact g3 m _ hm' (List.getElem?_eq_getElem hml)
    · rw [if_neg h] at c; exact c.fails.elim
  · exact c.fails.elim
/-! ## * where the right side is small -/
abbrev oMulX : D → D → Cm D := oI2 (fun _ j => -(2 ^ 64) < j ∧ j < 2 ^ 64) fun i j => .int (i * j)
theorem de_mulX {X : Cx} {tb : Addr → Prop} {W : WX} {pos : Pos} {a b : Expr} {fa fb : Sl → Cm D} (ha : DE X tb W a fa) (hb : DE X tb W b fb) : DE X tb W (.BinOp a .Mult b pos) (eOp2 oMulX fa fb) :=
  de_op op_mul (sem_i2 (fun i j h => Or.inr h) (fun i j H ρ => .int (i * j))) ha hb
end DL

namespace DL
open PySem PySem.Spec L2
/-! ## meanings, run -/
def Ok {α : Type} (c : Cm α) (μ : Mu) (Q : α → Mu → Prop) : Prop := ∃ a μ', c μ = some (.ok a, μ') ∧ Q a μ'
def OkS (c : CS) (μ : Mu) (Q : SR → Mu → Prop) : Prop := ∃ r μ', c μ = some (r, μ') ∧ Q r μ'
theorem ok_ok {α : Type} {a : α} {μ : Mu} {Q : α → Mu → Prop} : Ok (Cm.ok a) μ Q ↔ Q a μ := ⟨fun ⟨b, μ', e, q⟩ => by cases e; exact q, fun q => ⟨a, μ, rfl, q⟩⟩
theorem ok_fail {α : Type} {μ : Mu} {Q : α → Mu → Prop} : Ok (Cm.fail (α := α)) μ Q ↔ False := ⟨(fun ⟨b, μ2, e, q⟩ => by cases e), (fun q => q.elim)⟩
theorem ok_bind {α β : Type} {m : Cm α} {f : α → Cm β} {μ : Mu} {Q : β → Mu → Prop} : Ok (m.bind f) μ Q ↔ Ok m μ fun a μ1 => Ok (f a) μ1 Q := by
  constructor
  · rintro ⟨b, μ', e, q⟩
    rcases bind_inv e with ⟨a, μ1, h1, h2⟩ | ⟨x, μ1, h1, h2⟩
    · exact ⟨a, μ1, h1, b, μ', h2, q⟩
    · cases h2
  · rintro ⟨a, μ1, h1, b, μ', h2, q⟩
    exact ⟨b, μ', by rw [bind_of h1]; exact h2, q⟩
theorem ok_lift {α : Type} {o : Option α} {μ : Mu} {Q : α → Mu → Prop} : Ok (Cm.lift o) μ Q ↔ ∃ a, o = some a ∧ Q a μ := by
  constructor
  · rintro ⟨a, μ', e, q⟩
    obtain ⟨a', h, h2, rfl⟩ := lift_inv e
    cases h2
    exact ⟨a, h, q⟩
  · rintro ⟨a, h, q⟩
    subst h
    exact ⟨a, μ, rfl, q⟩
theorem ok_look {α : Type} {f : Mu → Option α} {μ : Mu} {Q : α → Mu → Prop} : Ok (Cm.look f) μ Q ↔ ∃ a, f μ = some a ∧ Q a μ := by
  constructor
  · rintro ⟨a, μ', e, q⟩
    obtain ⟨a', h, h2, rfl⟩ := look_inv e
    cases h2
    exact ⟨a, h, q⟩
  · rintro ⟨a, h, q⟩
    exact ⟨a, μ, by unfold Cm.look; rw [h], q⟩
theorem Ok.imp {α : Type} {c : Cm α} {μ : Mu} {Q Q' : α → Mu → Prop} (h : Ok c μ Q) (i : ∀ a μ', Q a μ' → Q' a μ') : Ok c μ Q' := let ⟨a, μ', e, q⟩ := h; ⟨a, μ', e, i _ _ q⟩
theorem OkS.imp {c : CS} {μ : Mu} {Q Q' : SR → Mu → Prop} (h : OkS c μ Q) (i : ∀ a μ', Q a μ' → Q' a μ') : OkS c μ Q' := let ⟨a, μ', e, q⟩ := h; ⟨a, μ', e, i _ _ q⟩
theorem ok_var {i : Nat} {sl : Sl} {μ : Mu} {Q : D → Mu → Prop} : Ok (eVar i sl) μ Q ↔ ∃ d, sl[i]?.bind id = some d ∧ Q d μ := ok_lift
theorem ok_k {d : D} {sl : Sl} {μ : Mu} {Q : D → Mu → Prop} : Ok (eK d sl) μ Q ↔ Q d μ := ok_ok
theorem ok_op2 {o : D → D → Cm D} {f g : Sl → Cm D} {sl : Sl} {μ : Mu} {Q : D → Mu → Prop} : Ok (eOp2 o f g sl) μ Q ↔ Ok (f sl) μ fun x μ1 => Ok (g sl) μ1 fun y μ2 => Ok (o x y) μ2 Q := by
  unfold eOp2; rw [ok_bind]; simp only [ok_bind]
theorem ok_cb {o : List D → Cm D} {fs : Sl → Cm (List D)} {sl : Sl} {μ : Mu} {Q : D → Mu → Prop} : Ok (eCB o fs sl) μ Q ↔ Ok (fs sl) μ fun ds μ1 => Ok (o ds) μ1 Q := ok_bind
theorem ok_nil {sl : Sl} {μ : Mu} {Q : List D → Mu → Prop} : Ok (aNil sl) μ Q ↔ Q [] μ := ok_ok
theorem ok_cons {f : Sl → Cm D} {g : Sl → Cm (List D)} {sl : Sl} {μ : Mu} {Q : List D → Mu → Prop} : Ok (aCons f g sl) μ Q ↔ Ok (f sl) μ fun d μ1 => Ok (g sl) μ1 fun ds μ2 => Q (d :: ds) μ2 := by
  unfold aCons; rw [ok_bind]; simp only [ok_bind, ok_ok]
theorem ok_un {o : D → Cm D} {f : Sl → Cm D} {sl : Sl} {μ : Mu} {Q : D → Mu → Prop} : Ok (eUn o f sl) μ Q ↔ Ok (f sl) μ fun x μ1 => Ok (o x) μ1 Q := ok_bind
theorem ok_i2 {C : Int → Int → Prop} [∀ i j, Decidable (C i j)] {g : Int → Int → D} {i j : Int} {μ : Mu} {Q : D → Mu → Prop} : Ok (oI2 C g (.int i) (.int j)) μ Q ↔ C i j ∧ Q (g i j) μ := by
  show Ok (if C i j then Cm.ok (g i j) else Cm.fail) μ Q ↔ _
  by_cases h : C i j
  · rw [if_pos h, ok_ok]; exact ⟨fun q => ⟨h, q⟩, fun q => q.2⟩
  · rw [if_neg h, ok_fail]; exact ⟨fun q => q.elim, fun q => h q.1⟩
theorem ok_addI {i j : Int} {μ : Mu} {Q : D → Mu → Prop} : Ok (oAdd (.int i) (.int j)) μ Q ↔ Q (.int (i + j)) μ := ok_ok
theorem ok_ite {α : Type} {p : Prop} [Decidable p] {a b : Cm α} {μ : Mu} {Q : α → Mu → Prop} : Ok (if p then a else b) μ Q ↔ if p then Ok a μ Q else Ok b μ Q := by by_cases h : p <;> simp [h]
theorem ok_tBl {f : Sl → Cm D} {sl : Sl} {μ : Mu} {Q : Bool → Mu → Prop} : Ok (tBl f sl) μ Q ↔ Ok (f sl) μ fun d μ1 => ∃ b, d = .bl b ∧ Q b μ1 := by
  unfold tBl cBl
  rw [ok_bind]
  constructor
  · intro h
    refine h.imp fun d μ1 h => ?_
    obtain ⟨b, e, q⟩ := ok_lift.mp h
    cases d <;> cases e
    exact ⟨_, rfl, q⟩
  · intro h
    refine h.imp fun d μ1 h => ?_
    obtain ⟨b, rfl, q⟩ := h
    exact ok_lift.mpr ⟨b, rfl, q⟩
theorem ok_tNt {f : Sl → Cm Bool} {sl : Sl} {μ : Mu} {Q : Bool → Mu → Prop} : Ok (tNt f sl) μ Q ↔ Ok (f sl) μ fun b μ1 => Q (!b) μ1 := by unfold tNt; rw [ok_bind]; simp only [ok_ok]
theorem ok_tAn {f g : Sl → Cm Bool} {sl : Sl} {μ : Mu} {Q : Bool → Mu → Prop} : Ok (tAn f g sl) μ Q ↔ Ok (f sl) μ fun b μ1 => if b = true then Ok (g sl) μ1 Q else Q false μ1 := by unfold tAn; rw [ok_bind]; simp only [ok_ite, ok_ok]
theorem ok_tOo {f g : Sl → Cm Bool} {sl : Sl} {μ : Mu} {Q : Bool → Mu → Prop} : Ok (tOo f g sl) μ Q ↔ Ok (f sl) μ fun b μ1 => if b = true then Q true μ1 else Ok (g sl) μ1 Q := by unfold tOo; rw [ok_bind]; simp only [ok_ite, ok_ok]
theorem ok_tTru {f : Sl → Cm D} {sl : Sl} {μ : Mu} {Q : Bool → Mu → Prop} : Ok (tTru f sl) μ Q ↔ Ok (f sl) μ fun d μ1 => ∃ b, dTruth μ1 d = some b ∧ Q b μ1 := by
  unfold tTru cTru
  rw [ok_bind]
  have k : ∀ (d : D) (μ1 : Mu), Ok (fun μ => match dTruth μ d with | some b => some (R.ok b, μ) | none => none) μ1 Q ↔ ∃ b, dTruth μ1 d = some b ∧ Q b μ1 := fun d μ1 => by
    constructor
    · rintro ⟨b, μ2, e, q⟩
      cases h : dTruth μ1 d with
      | none => simp only [h] at e; cases e
      | some b' => simp only [h] at e; cases e; exact ⟨b, rfl, q⟩
    · rintro ⟨b, h, q⟩
      exact ⟨b, μ1, by simp only [h], q⟩
  exact ⟨fun h => h.imp fun d μ1 h => (k d μ1).mp h, fun h => h.imp fun d μ1 h => (k d μ1).mpr h⟩
/-! ### statements -/
def nxt (g : Sl → CS) (Q : SR → Mu → Prop) : SR → Mu → Prop
  | .nx sl1, μ1 => OkS (g sl1) μ1 Q
  | r, μ1 => Q r μ1
theorem oks_seq {f g : Sl → CS} {sl : Sl} {μ : Mu} {Q : SR → Mu → Prop} (h : OkS (f sl) μ (nxt g Q)) : OkS (sSeq f g sl) μ Q := by
  obtain ⟨r1, μ1, h, q⟩ := h
  unfold sSeq OkS
  dsimp only
  rw [h]
  cases r1 with
  | nx sl1 => exact q
  | bk sl1 => exact ⟨_, _, rfl, q⟩
  | ct sl1 => exact ⟨_, _, rfl, q⟩
  | rt d => exact ⟨_, _, rfl, q⟩
  | ex x sl1 => exact ⟨_, _, rfl, q⟩
theorem oks_seq_iff {f g : Sl → CS} {sl : Sl} {μ : Mu} {Q : SR → Mu → Prop} : OkS (sSeq f g sl) μ Q ↔ OkS (f sl) μ (nxt g Q) := by
  refine ⟨fun ⟨r, μ', e, q⟩ => ?_, oks_seq⟩
  unfold sSeq at e
  cases h : f sl μ with
  | none => rw [h] at e; cases e
  | some p =>
    obtain ⟨r1, μ1⟩ := p
    rw [h] at e
    cases r1 with
    | nx sl1 => exact ⟨_, _, h, r, μ', e, q⟩
    | bk sl1 => cases e; exact ⟨_, _, h, q⟩
    | ct sl1 => cases e; exact ⟨_, _, h, q⟩
    | rt d => cases e; exact ⟨_, _, h, q⟩
    | ex x sl1 => cases e; exact ⟨_, _, h, q⟩
theorem nxt_nx {g : Sl → CS} {Q : SR → Mu → Prop} {sl : Sl} {μ : Mu} : nxt g Q (.nx sl) μ ↔ OkS (g sl) μ Q := Iff.rfl
theorem nxt_rt {g : Sl → CS} {Q : SR → Mu → Prop} {d : D} {μ : Mu} : nxt g Q (.rt d) μ ↔ Q (.rt d) μ := Iff.rfl
theorem oks_exp {α : Type} {f : Sl → Cm α} {k : α → Sl → CS} {sl : Sl} {μ : Mu} {Q : SR → Mu → Prop} (h : Ok (f sl) μ fun d μ1 => OkS (k d sl) μ1 Q) : OkS (sExp f k sl) μ Q := by
  obtain ⟨d, μ1, h1, r, μ', h2, q⟩ := h
  exact ⟨r, μ', by unfold sExp sBind; rw [h1]; exact h2, q⟩
theorem oks_nx {sl : Sl} {μ : Mu} {Q : SR → Mu → Prop} : OkS (sNx sl) μ Q ↔ Q (.nx sl) μ := ⟨fun ⟨_, _, e, q⟩ => by cases e; exact q, fun q => ⟨_, _, rfl, q⟩⟩
theorem oks_set {i : Nat} {f : Sl → Cm D} {sl : Sl} {μ : Mu} {Q : SR → Mu → Prop} (h : Ok (f sl) μ fun d μ1 => Q (.nx (sl.set i (some d))) μ1) : OkS (sSet i f sl) μ Q := oks_exp (h.imp fun d μ1 q => oks_nx.mpr q)
theorem oks_drop {f : Sl → Cm D} {sl : Sl} {μ : Mu} {Q : SR → Mu → Prop} (h : Ok (f sl) μ fun d μ1 => Q (.nx sl) μ1) : OkS (sDrop f sl) μ Q := oks_exp (h.imp fun d μ1 q => oks_nx.mpr q)
theorem oks_ret {f : Sl → Cm D} {sl : Sl} {μ : Mu} {Q : SR → Mu → Prop} (h : Ok (f sl) μ fun d μ1 => Q (.rt d) μ1) : OkS (sRet f sl) μ Q := oks_exp (h.imp fun d μ1 q => ⟨_, _, rfl, q⟩)
theorem oks_if {c : Sl → Cm Bool} {f g : Sl → CS} {sl : Sl} {μ : Mu} {Q : SR → Mu → Prop} (h : Ok (c sl) μ fun b μ1 => if b = true then OkS (f sl) μ1 Q else OkS (g sl) μ1 Q) : OkS (sIf c f g sl) μ Q := oks_exp (h.imp fun b μ1 q => by
  by_cases hb : b = true
  · rw [if_pos hb] at q ⊢; exact q
  · rw [if_neg hb] at q ⊢; exact q)
theorem oks_aug {i : Nat} {o : D → D → Cm D} {f : Sl → Cm D} {sl : Sl} {μ : Mu} {Q : SR → Mu → Prop} (h : ∃ x, sl[i]?.bind id = some x ∧ Ok (f sl) μ fun y μ1 => Ok (o x y) μ1 fun d μ2 => Q (.nx (sl.set i (some d))) μ2) : OkS (sAug i o f sl) μ Q := by
  obtain ⟨x, e, h⟩ := h
  refine oks_exp ?_
  rw [ok_bind, ok_lift]
  refine ⟨x, e, ?_⟩
  rw [ok_bind]
  exact h.imp fun y μ1 q => q.imp fun d μ2 q => ⟨_, _, rfl, q⟩
theorem oks_setIx {fe fo fi : Sl → Cm D} {sl : Sl} {μ : Mu} {Q : SR → Mu → Prop} (h : Ok (fe sl) μ fun v μ1 => Ok (fo sl) μ1 fun o μ2 => Ok (fi sl) μ2 fun i μ3 => Ok (oSetIx o i v) μ3 fun _ μ4 => Q (.nx sl) μ4) : OkS (sSetIx fe fo fi sl) μ Q := by
  refine oks_exp ?_
  simp only [ok_bind]
  exact h.imp fun v μ1 q => q.imp fun o μ2 q => q.imp fun i μ3 q => q.imp fun d μ4 q => ⟨_, _, rfl, q⟩
/-- a change of a living list -/
theorem ok_mu {h : Nat} {g : List D → Option (List D × D)} {μ : Mu} {Q : D → Mu → Prop} (q : ∃ xs ys d, μ[h]? = some (some (.lst xs)) ∧ g xs = some (ys, d) ∧ Q d (μ.set h (some (.lst ys)))) : Ok (oMu h g) μ Q := by
  obtain ⟨xs, ys, d, h1, h2, q⟩ := q
  exact ⟨d, _, by unfold oMu; rw [h1]; simp only [h2], q⟩
/-! ### calls -/
theorem ok_call {n : Nat} {den : List D → Cm D} {ds : List D} {μ : Mu} {Q : D → Mu → Prop} (hl : ds.length = n) (h : Ok (den ds) μ Q) : Ok (oCall n den ds) μ Q := by unfold oCall; rw [if_pos hl]; exact h
/-- a result that is no living object -/
def D.dead : D → Prop
  | .mref _ => False
  | _ => True
theorem denC_ok {m : Nat} {g : Sl → CS} {ds : List D} {μ : Mu} {Q : D → Mu → Prop} (h : OkS (g (st0 m ds)) μ fun r μ1 => MuLow μ.length μ μ1 ∧ ∃ d, outR r = some (.ok d) ∧ ∃ d', cutV μ.length μ1 d d' ∧ ∀ d2, cutV μ.length μ1 d d2 → Q d2 (μ1.take μ.length)) : Ok (denC m g ds) μ Q := by
  obtain ⟨r, μ1, e, hlow, d, ho, d', hc, q⟩ := h
  have hx : ∃ d', cutV μ.length μ1 d d' := ⟨d', hc⟩
  refine ⟨hx.choose, μ1.take μ.length, ?_, q _ hx.choose_spec⟩
  unfold denC
  rw [e]
  simp only [if_pos hlow, ho]
  rw [dif_pos hx]
theorem denK_ok {m : Nat} {g : Sl → CS} {ds : List D} {μ : Mu} {Q : D → Mu → Prop} (h : OkS (g (st0 m ds)) μ fun r μ1 => ∃ d, outR r = some (.ok d) ∧ Q d μ1) : Ok (denK m g ds) μ Q := by
  obtain ⟨r, μ1, e, d, ho, q⟩ := h
  exact ⟨d, μ1, by unfold denK; rw [e]; simp only [ho], q⟩
/-- the result stays as it is -/
theorem cutV_self {n : Nat} {μ' : Mu} {d : D} (b : d.bel n) : cutV n μ' d d ∧ ∀ d2, cutV n μ' d d2 → d2 = d := by
  refine ⟨.inl ⟨rfl, b⟩, fun d2 h => ?_⟩
  rcases h with ⟨h, _⟩ | ⟨h, ds, rfl, hge, _⟩
  · exact h
  · have b : h < n := b
    omega
theorem muLow_refl (n : Nat) (μ : Mu) : MuLow n μ μ := fun _ _ _ e => .inl e
theorem muLow_set {n : Nat} {μ : Mu} {h : Nat} {ds : List D} (b : belL n ds) : MuLow n μ (μ.set h (some (.lst ds))) := fun i mo hi e => by
  by_cases hh : h = i
  · subst hh
    by_cases hl : h < μ.length
    · rw [List.getElem?_set_self hl] at e; cases e; exact .inr b
    · rw [List.getElem?_eq_none (by rw [List.length_set]; omega)] at e; cases e
  · rw [List.getElem?_set_ne hh] at e; exact .inl e
end DL

namespace DL
open PySem PySem.Spec L2
theorem log_lt {i : Int} (n : Nat) (hn : 0 < n) (h : i.natAbs < 2 ^ n) : i.natAbs.log2 < n := PySem.Flt.log2_lt_of hn h
theorem ok_mulI {i j : Int} {μ : Mu} {Q : D → Mu → Prop} (h : i.natAbs < 2 ^ 400000) (h2 : j.natAbs < 2 ^ 400000) (q : Q (.int (i * j)) μ) : Ok (oMul (.int i) (.int j)) μ Q := by
  have h1 := log_lt 400000 (by decide) h
  have h3 := log_lt 400000 (by decide) h2
  show Ok (if i.natAbs.log2 + j.natAbs.log2 < 1000000 then Cm.ok (.int (i * j)) else Cm.fail) μ Q
  rw [if_pos (by omega)]
  exact ok_ok.mpr q
theorem ok_mul {i j : Int} {μ : Mu} {Q : D → Mu → Prop} : Ok (oMul (.int i) (.int j)) μ Q ↔ i.natAbs.log2 + j.natAbs.log2 < 1000000 ∧ Q (.int (i * j)) μ := by
  show Ok (if i.natAbs.log2 + j.natAbs.log2 < 1000000 then Cm.ok (.int (i * j)) else Cm.fail) μ Q ↔ _
  by_cases h : i.natAbs.log2 + j.natAbs.log2 < 1000000
  · rw [if_pos h, ok_ok]; exact ⟨fun q => ⟨h, q⟩, fun q => q.2⟩
  · rw [if_neg h, ok_fail]; exact ⟨fun q => q.elim, fun q => h q.1⟩
/-- of numbers below 2 ^ 200 -/
theorem logs {i j : Int} (h : i.natAbs < 2 ^ 200) (h2 : j.natAbs < 2 ^ 200) : i.natAbs.log2 + j.natAbs.log2 < 1000000 := by
  have h1 := log_lt 200 (by decide) h
  have h3 := log_lt 200 (by decide) h2
  omega
theorem small_pow {i : Int} (h : i.natAbs < 2 ^ 200) : i.natAbs < 2 ^ 400000 := Nat.lt_of_lt_of_le h (Nat.pow_le_pow_right (by decide) (by decide))
/-- of small numbers -/
theorem ok_mulS {i j : Int} {μ : Mu} {Q : D → Mu → Prop} (h : i.natAbs < 2 ^ 200) (h2 : j.natAbs < 2 ^ 200) (q : Q (.int (i * j)) μ) : Ok (oMul (.int i) (.int j)) μ Q := ok_mulI (small_pow h) (small_pow h2) q
theorem nab {i : Int} {n : Nat} (h0 : 0 ≤ i) (h1 : i < (n : Int)) : i.natAbs < n := by omega
/-- an end of a call whose result is a plain value and which leaves the objects as they are -/
theorem denC_flat {m : Nat} {g : Sl → CS} {ds : List D} {μ : Mu} {Q : D → Mu → Prop} (h : OkS (g (st0 m ds)) μ fun r μ1 => ∃ d, r = .rt d ∧ d.bel μ.length ∧ μ1.length = μ.length ∧ MuLow μ.length μ μ1 ∧ Q d μ1) : Ok (denC m g ds) μ Q := by
  refine denC_ok (h.imp fun r μ1 ⟨d, e, hb, hl, hlow, q⟩ => ?_)
  subst e
  refine ⟨hlow, d, rfl, d, (cutV_self hb).1, fun d2 h2 => ?_⟩
  rw [(cutV_self hb).2 d2 h2, ← hl, List.take_length]
  exact q
/-! ### items of living lists -/
theorem dLT_m {μ : Mu} {h : Nat} {xs : List D} (hm : μ[h]? = some (some (.lst xs))) : dLT μ (.mref h) = some xs := by
  show (match μ[h]? with | some (some (.lst xs)) => some xs | _ => none) = some xs
  rw [hm]
theorem ok_ixM {μ : Mu} {h : Nat} {xs : List D} {i : Int} {d : D} {Q : D → Mu → Prop} (hm : μ[h]? = some (some (.lst xs))) (e : atI xs i = some d) (q : Q d μ) : Ok (oIx (.mref h) (.int i)) μ Q := by
  refine ok_look.mpr ⟨d, ?_, q⟩
  rw [dLT_m hm]
  exact e
theorem ok_ixL {μ : Mu} {xs : List D} {i : Int} {d : D} {Q : D → Mu → Prop} (e : atI xs i = some d) (q : Q d μ) : Ok (oIx (.lst xs) (.int i)) μ Q := ok_look.mpr ⟨d, e, q⟩
theorem ok_ixT {μ : Mu} {xs : List D} {i : Int} {d : D} {Q : D → Mu → Prop} (e : atI xs i = some d) (q : Q d μ) : Ok (oIx (.tup xs) (.int i)) μ Q := ok_look.mpr ⟨d, e, q⟩
theorem ok_setM {μ : Mu} {h : Nat} {xs : List D} {i : Int} {j : Nat} {v : D} {Q : D → Mu → Prop} (hm : μ[h]? = some (some (.lst xs))) (e : ixN xs.length i = some j) (q : Q .non (μ.set h (some (.lst (xs.set j v))))) : Ok (oSetIx (.mref h) (.int i) v) μ Q := by
  refine ok_mu ⟨xs, _, _, hm, ?_, q⟩
  rw [e]; rfl
theorem set_get {μ : Mu} {h : Nat} {o : Option MO} (hl : h < μ.length) : (μ.set h o)[h]? = some o := List.getElem?_set_self hl
theorem lt_of_get {μ : Mu} {h : Nat} {o : Option MO} (e : μ[h]? = some o) : h < μ.length := (List.getElem?_eq_some_iff.mp e).1
end DL

namespace DL
open PySem PySem.Spec L2
/-! ## loops -/
/-- what a turn of a loop must give -/
def turnQ (gs : List (Nat × List D)) (I : Sl → Mu → Prop) (Q : SR → Mu → Prop) : SR → Mu → Prop
  | .nx sl2, μ2 => Guard gs μ2 ∧ I sl2 μ2
  | .ct sl2, μ2 => Guard gs μ2 ∧ I sl2 μ2
  | .bk sl2, μ2 => Q (.nx sl2) μ2
  | .rt d, μ2 => Q (.rt d) μ2
  | .ex x sl2, μ2 => Q (.ex x sl2) μ2
theorem oks_loop {g : Tgt} {body : Sl → CS} {gs : List (Nat × List D)} {Q : SR → Mu → Prop} (I : Nat → Sl → Mu → Prop) : ∀ (items : List D) (k : Nat) (sl : Sl) (μ : Mu), I k sl μ →
    (∀ i d sl μ, items[i]? = some d → I (k + i) sl μ → ∃ sl1, g.go d sl = some sl1 ∧ OkS (body sl1) μ (turnQ gs (I (k + i + 1)) Q)) → (∀ sl μ, I (k + items.length) sl μ → Q (.nx sl) μ) → OkS (sLoop g body gs items sl) μ Q
  | [], k, sl, μ, h0, _, he => ⟨_, _, rfl, he sl μ h0⟩
  | d :: ds, k, sl, μ, h0, hs, he => by
    obtain ⟨sl1, e1, r, μ2, e2, q⟩ := hs 0 d sl μ rfl h0
    have rest : ∀ sl2 μ2, I (k + 1) sl2 μ2 → OkS (sLoop g body gs ds sl2) μ2 Q := fun sl2 μ2 h => by
      refine oks_loop I ds (k + 1) sl2 μ2 h (fun i d' sl' μ' e h' => ?_) (fun sl' μ' h' => he sl' μ' ?_)
      · have := hs (i + 1) d' sl' μ' (by simpa using e) (by rw [show k + (i + 1) = k + 1 + i by omega]; exact h')
        rw [show k + (i + 1) + 1 = k + 1 + i + 1 by omega] at this
        exact this
      · rw [List.length_cons, show k + (ds.length + 1) = k + 1 + ds.length by omega]; exact h'
    unfold sLoop OkS
    simp only [e1, e2]
    cases r with
    | nx sl2 =>
      obtain ⟨g1, h1⟩ := q
      simp only [if_pos g1]
      exact rest sl2 μ2 h1
    | ct sl2 =>
      obtain ⟨g1, h1⟩ := q
      simp only [if_pos g1]
      exact rest sl2 μ2 h1
    | bk sl2 => exact ⟨_, _, rfl, q⟩
    | rt d' => exact ⟨_, _, rfl, q⟩
    | ex x sl2 => exact ⟨_, _, rfl, q⟩
/-- for: I i, behind i turns -/
theorem oks_for {f : Sl → Cm (List D × List (Nat × List D))} {g : Tgt} {body : Sl → CS} {sl : Sl} {μ : Mu} {Q : SR → Mu → Prop} (I : List D → List (Nat × List D) → Nat → Sl → Mu → Prop)
    (h : Ok (f sl) μ fun p μ1 => Guard p.2 μ1 ∧ I p.1 p.2 0 sl μ1 ∧ (∀ i d sl μ, p.1[i]? = some d → I p.1 p.2 i sl μ → ∃ sl1, g.go d sl = some sl1 ∧ OkS (body sl1) μ (turnQ p.2 (I p.1 p.2 (i + 1)) Q)) ∧ ∀ sl μ, I p.1 p.2 p.1.length sl μ → Q (.nx sl) μ) : OkS (sFor f g body sl) μ Q := by
  refine oks_exp (h.imp fun p μ1 ⟨hg, h0, hs, he⟩ => ?_)
  have : OkS (sLoop g body p.2 p.1 sl) μ1 Q := oks_loop (I p.1 p.2) p.1 0 sl μ1 h0 (fun i d sl μ e h' => by rw [Nat.zero_add] at h' ⊢; exact hs i d sl μ e h') (fun sl μ h' => he sl μ (by rw [Nat.zero_add] at h'; exact h'))
  obtain ⟨r, μ2, e, q⟩ := this
  exact ⟨r, μ2, by simp only [if_pos hg]; exact e, q⟩
/-! ### comprehensions -/
theorem ok_turn {g : Tgt} {t : Sl → Cm Bool} {e : Sl → Cm D} {gs : List (Nat × List D)} {sl0 : Sl} {d : D} {acc : List D} {μ : Mu} {Q : List D → Mu → Prop} {sl1 : Sl} (eg : g.go d sl0 = some sl1)
    (h : Ok (t sl1) μ fun b μ1 => if b = true then Ok (e sl1) μ1 fun y μ2 => (Guard gs μ2 ∧ acc.length < sizeLine) ∧ Q (acc ++ [y]) μ2 else Guard gs μ1 ∧ Q acc μ1) : Ok (lcTurn g t e gs sl0 d acc) μ Q := by
  obtain ⟨b, μ1, e1, h⟩ := h
  unfold lcTurn Ok
  simp only [eg, e1]
  cases b with
  | false =>
    obtain ⟨h1, h2⟩ := h
    simp only [if_pos h1]
    exact ⟨acc, μ1, rfl, h2⟩
  | true =>
    obtain ⟨y, μ2, e2, h1, h2⟩ := h
    simp only [e2, if_pos h1]
    exact ⟨_, _, rfl, h2⟩
theorem ok_lcLoop {g : Tgt} {t : Sl → Cm Bool} {e : Sl → Cm D} {gs : List (Nat × List D)} {sl0 : Sl} {Q : List D → Mu → Prop} (I : Nat → List D → Mu → Prop) : ∀ (items : List D) (k : Nat) (acc : List D) (μ : Mu), I k acc μ →
    (∀ i d acc μ, items[i]? = some d → I (k + i) acc μ → Ok (lcTurn g t e gs sl0 d acc) μ fun acc2 μ2 => I (k + i + 1) acc2 μ2) → (∀ acc μ, I (k + items.length) acc μ → Q acc μ) → Ok (lcLoop g t e gs sl0 items acc) μ Q
  | [], k, acc, μ, h0, _, he => ⟨_, _, rfl, he acc μ h0⟩
  | d :: ds, k, acc, μ, h0, hs, he => by
    show Ok ((lcTurn g t e gs sl0 d acc).bind fun acc' => lcLoop g t e gs sl0 ds acc') μ Q
    rw [ok_bind]
    refine (hs 0 d acc μ rfl h0).imp fun acc2 μ2 h2 => ok_lcLoop I ds (k + 1) acc2 μ2 h2 (fun i d' a' μ' e' h' => ?_) (fun a' μ' h' => he a' μ' ?_)
    · have := hs (i + 1) d' a' μ' (by simpa using e') (by rw [show k + (i + 1) = k + 1 + i by omega]; exact h')
      rw [show k + (i + 1) + 1 = k + 1 + i + 1 by omega] at this
      exact this
    · rw [List.length_cons, show k + (ds.length + 1) = k + 1 + ds.length by omega]; exact h'
theorem ok_lc {mk : List D → Cm D} {f : Sl → Cm (List D × List (Nat × List D))} {g : Tgt} {t : Sl → Cm Bool} {e : Sl → Cm D} {vs : List Nat} {sl : Sl} {μ : Mu} {Q : D → Mu → Prop} (I : List D → List (Nat × List D) → Nat → List D → Mu → Prop)
    (h : Ok (f sl) μ fun p μ1 => Guard p.2 μ1 ∧ I p.1 p.2 0 [] μ1 ∧ (∀ i d acc μ, p.1[i]? = some d → I p.1 p.2 i acc μ → Ok (lcTurn g t e p.2 (wipeD sl vs) d acc) μ fun acc2 μ2 => I p.1 p.2 (i + 1) acc2 μ2) ∧ ∀ acc μ, I p.1 p.2 p.1.length acc μ → Ok (mk acc) μ Q) : Ok (eLc mk f g t e vs sl) μ Q := by
  unfold eLc
  rw [ok_bind]
  refine h.imp fun p μ1 ⟨hg, h0, hs, he⟩ => ?_
  have : Ok ((lcLoop g t e p.2 (wipeD sl vs) p.1 []).bind mk) μ1 Q := by
    rw [ok_bind]
    exact ok_lcLoop (I p.1 p.2) p.1 0 [] μ1 h0 (fun i d acc μ e' h' => by rw [Nat.zero_add] at h' ⊢; exact hs i d acc μ e' h') (fun acc μ h' => he acc μ (by rw [Nat.zero_add] at h'; exact h'))
  obtain ⟨a, μ2, e2, q⟩ := this
  exact ⟨a, μ2, by simp only [if_pos hg]; exact e2, q⟩
end DL

namespace TX
section
variable {α : Type} [BEq α] [LawfulBEq α]
/-- a word m times -/
def rep (m : Nat) (w : List α) : List α := (List.replicate m w).flatten
theorem rep_zero (w : List α) : rep 0 w = [] := rfl
theorem rep_succ (m : Nat) (w : List α) : rep (m + 1) w = w ++ rep m w := by simp [rep, List.replicate_succ]
theorem rep_len (m : Nat) (w : List α) : (rep m w).length = w.length * m := by
  induction m with
  | zero => rfl
  | succ m ih => rw [rep_succ, List.length_append, ih, Nat.mul_succ, Nat.add_comm]
theorem rep_count (a : α) (m : Nat) (w : List α) : (rep m w).count a = m * w.count a := by
  induction m with
  | zero => simp [rep_zero]
  | succ m ih => rw [rep_succ, List.count_append, ih, Nat.succ_mul, Nat.add_comm]
theorem rep_take {w : List α} (hw : 0 < w.length) : ∀ (m p : Nat), p ≤ w.length * m → (rep m w).take p = rep (p / w.length) w ++ w.take (p % w.length)
  | 0, p, hp => by
    have : p = 0 := by simpa using hp
    subst this
    simp [rep_zero]
  | m + 1, p, hp => by
    rw [rep_succ]
    by_cases h : p < w.length
    · rw [List.take_append_of_le_length (Nat.le_of_lt h), Nat.div_eq_of_lt h, Nat.mod_eq_of_lt h, rep_zero, List.nil_append]
    · obtain ⟨q, rfl⟩ := Nat.exists_eq_add_of_le (Nat.le_of_not_lt h)
      rw [List.take_append, List.take_of_length_le (Nat.le_add_right _ _), Nat.add_sub_cancel_left, rep_take hw m q (by rw [Nat.mul_succ] at hp; omega), Nat.add_div_left _ hw, Nat.add_mod_left, rep_succ, List.append_assoc]
theorem take_min (L : List α) (p k : Nat) (hk : L.length = k) : L.take p = L.take (min p k) := by
  by_cases h : p ≤ k
  · rw [Nat.min_eq_left h]
  · rw [Nat.min_eq_right (by omega), List.take_of_length_le (by omega), List.take_of_length_le (by omega)]
/-- one block more: what the counts below p grow by -/
theorem count_step (a : α) {w : List α} (hw : 0 < w.length) (A : List α) (m p : Nat) :
    ((A ++ rep m w).take p).count a = (A.take p).count a + (min (p - A.length) (w.length * m) / w.length * w.count a + (w.take (min (p - A.length) (w.length * m) % w.length)).count a) := by
  rw [List.take_append, List.count_append, take_min (rep m w) (p - A.length) _ (rep_len m w), rep_take hw m _ (Nat.min_le_right _ _), List.count_append, rep_count]
/-- t is the place, from 1, of the n-th a -/
def Nth (L : List α) (a : α) (n t : Nat) : Prop := 0 < t ∧ t ≤ L.length ∧ (L.take t).count a = n ∧ (L.take (t - 1)).count a + 1 = n
theorem count_take_le (a : α) (L : List α) {p q : Nat} (h : p ≤ q) : (L.take p).count a ≤ (L.take q).count a := by
  have : L.take p = (L.take q).take p := by rw [List.take_take, Nat.min_eq_left h]
  rw [this]
  exact (List.take_sublist _ _).count_le a
theorem Nth.uniq {L : List α} {a : α} {n t s : Nat} (ht : Nth L a n t) (hs : Nth L a n s) : t = s := by
  obtain ⟨t0, t1, t2, t3⟩ := ht
  obtain ⟨s0, s1, s2, s3⟩ := hs
  rcases Nat.lt_trichotomy t s with h | h | h
  · have := count_take_le a L (show t ≤ s - 1 by omega); omega
  · exact h
  · have := count_take_le a L (show s ≤ t - 1 by omega); omega
theorem Nth.app {A : List α} {a : α} {n t : Nat} (B : List α) (h : Nth A a n t) : Nth (A ++ B) a n t := by
  obtain ⟨t0, t1, t2, t3⟩ := h
  refine ⟨t0, by rw [List.length_append]; omega, ?_, ?_⟩
  · rw [List.take_append_of_le_length t1]; exact t2
  · rw [List.take_append_of_le_length (by omega)]; exact t3
theorem Nth.pre {B : List α} {a : α} {n t : Nat} (A : List α) (h : Nth B a n t) : Nth (A ++ B) a (A.count a + n) (A.length + t) := by
  obtain ⟨t0, t1, t2, t3⟩ := h
  refine ⟨by omega, by rw [List.length_append]; omega, ?_, ?_⟩
  · rw [List.take_append, List.take_of_length_le (by omega), List.count_append, show A.length + t - A.length = t by omega, t2]
  · rw [List.take_append, List.take_of_length_le (by omega), List.count_append, show A.length + t - 1 - A.length = t - 1 by omega]; omega
/-- the n-th a of a word m times, by whole turns and a part -/
theorem nth_rep {a : α} {w : List α} {own n m t : Nat} (ho : w.count a = own) (h0 : 0 < own) (hn : n < own * m) (ht : Nth w a (n % own + 1) t) :
    Nth (rep m w) a (n + 1) (n / own * w.length + t) := by
  have hq : n / own < m := Nat.div_lt_of_lt_mul hn
  obtain ⟨r, hr⟩ := Nat.exists_eq_add_of_lt hq
  have e : rep m w = rep (n / own) w ++ (w ++ rep r w) := by
    subst hr
    rw [← rep_succ]
    unfold rep
    rw [← List.flatten_append, List.replicate_append_replicate]
    rfl
  have h1 := (ht.app (rep r w)).pre (rep (n / own) w)
  rw [e]
  rw [rep_count, rep_len, ho] at h1
  have e2 : n / own * own + (n % own + 1) = n + 1 := by
    have := Nat.div_add_mod n own
    rw [Nat.mul_comm] at this
    omega
  rw [e2, Nat.mul_comm w.length] at h1
  exact h1
/-- the places of a in L -/
def PL (a : α) (L : List α) (r : List Nat) : Prop := r.length = L.count a ∧ ∀ j t, r[j]? = some t → Nth L a (j + 1) t
theorem PL.nil (a : α) : PL a [] [] := ⟨rfl, fun j t h => by simp at h⟩
theorem PL.snoc_ne {a x : α} {L : List α} {r : List Nat} (h : PL a L r) (hx : ¬ x = a) : PL a (L ++ [x]) r := by
  refine ⟨?_, fun j t hj => (h.2 j t hj).app _⟩
  rw [List.count_append, List.count_singleton, if_neg (by simpa using hx)]
  exact h.1
theorem PL.snoc_eq {a : α} {L : List α} {r : List Nat} (h : PL a L r) : PL a (L ++ [a]) (r ++ [L.length + 1]) := by
  refine ⟨?_, fun j t hj => ?_⟩
  · rw [List.length_append, h.1, List.count_append, List.count_singleton, if_pos (by simp)]; rfl
  · rcases Nat.lt_trichotomy j r.length with hl | hl | hl
    · rw [List.getElem?_append_left hl] at hj
      exact (h.2 j t hj).app _
    · subst hl
      rw [List.getElem?_append_right (Nat.le_refl _), Nat.sub_self] at hj
      have ht : L.length + 1 = t := by simpa using hj
      subst ht
      refine ⟨by omega, by simp, ?_, ?_⟩
      · rw [List.take_of_length_le (by simp), List.count_append, List.count_singleton, if_pos (by simp), h.1]
      · rw [Nat.add_sub_cancel, List.take_append_of_le_length (Nat.le_refl _), List.take_of_length_le (Nat.le_refl _), h.1]
    · rw [List.getElem?_eq_none (by simp; omega)] at hj
      exact absurd hj (by simp)
/-- what the blocks spell -/
def spell (bs : List (List α × Nat)) : List α := (bs.map fun b => rep b.2 b.1).flatten
theorem spell_nil : spell ([] : List (List α × Nat)) = [] := rfl
theorem spell_snoc (bs : List (List α × Nat)) (w : List α) (m : Nat) : spell (bs ++ [(w, m)]) = spell bs ++ rep m w := by simp [spell]
theorem spell_take {bs : List (List α × Nat)} {k : Nat} {w : List α} {m : Nat} (h : bs[k]? = some (w, m)) : spell (bs.take (k + 1)) = spell (bs.take k) ++ rep m w := by
  rw [List.take_succ, h]
  exact spell_snoc _ _ _
theorem spell_split (bs : List (List α × Nat)) (k : Nat) : spell bs = spell (bs.take k) ++ spell (bs.drop k) := by
  unfold spell
  rw [← List.flatten_append, ← List.map_append, List.take_append_drop]
theorem spell_len_step {bs : List (List α × Nat)} {k : Nat} {w : List α} {m : Nat} (h : bs[k]? = some (w, m)) : (spell (bs.take (k + 1))).length = (spell (bs.take k)).length + w.length * m := by
  rw [spell_take h, List.length_append, rep_len]
theorem spell_count_step {bs : List (List α × Nat)} {k : Nat} {w : List α} {m : Nat} (a : α) (h : bs[k]? = some (w, m)) : (spell (bs.take (k + 1))).count a = (spell (bs.take k)).count a + w.count a * m := by
  rw [spell_take h, List.count_append, rep_count, Nat.mul_comm]
theorem spell_among_step {bs : List (List α × Nat)} {k : Nat} {w : List α} {m : Nat} (a : α) (p : Nat) (h : bs[k]? = some (w, m)) (hw : 0 < w.length) :
    ((spell (bs.take (k + 1))).take p).count a = ((spell (bs.take k)).take p).count a + (min (p - (spell (bs.take k)).length) (w.length * m) / w.length * w.count a + (w.take (min (p - (spell (bs.take k)).length) (w.length * m) % w.length)).count a) := by
  rw [spell_take h, count_step a hw]
/-- the step of the pick: the n-th a lies in block k -/
theorem spell_nth {bs : List (List α × Nat)} {k : Nat} {w : List α} {m n t : Nat} {a : α} (h : bs[k]? = some (w, m)) (h0 : 0 < w.count a)
    (h1 : (spell (bs.take k)).count a < n) (h2 : n - (spell (bs.take k)).count a ≤ w.count a * m)
    (ht : Nth w a ((n - (spell (bs.take k)).count a - 1) % w.count a + 1) t) :
    Nth (spell bs) a n ((spell (bs.take k)).length + (n - (spell (bs.take k)).count a - 1) / w.count a * w.length + t) := by
  have g := ((nth_rep (m := m) rfl h0 (by omega) ht).pre (spell (bs.take k)))
  rw [spell_split bs (k + 1), spell_take h]
  have e : (spell (bs.take k)).count a + (n - (spell (bs.take k)).count a - 1 + 1) = n := by omega
  rw [e, ← Nat.add_assoc] at g
  exact g.app _
end
end TX

namespace TX
open PySem PySem.Spec L2 DL
/-! ## texts as lists of code points -/
abbrev S (l : List Nat) : Str := ⟨l.toArray⟩
theorem S_len (a : List Nat) : (S a).length = a.length := by simp [S, Str.length]
theorem S_ext {x y : Str} (h : x.cps.toList = y.cps.toList) : x = y := by
  cases x; cases y
  exact congrArg Str.mk (Array.toList_inj.mp h)
theorem S_app (a b : List Nat) : S a ++ S b = S (a ++ b) := S_ext (by rw [PySem.W.KT.app_list])
theorem S_AB : ((("AB" : String)) : Str) = S [65, 66] := rfl
theorem S_emp : ((("" : String)) : Str) = S [] := rfl
theorem mul_fold (c : Array Nat) : ∀ (k : Nat) (acc : Array Nat), ((List.replicate k c).foldl (· ++ ·) acc).toList = acc.toList ++ rep k c.toList
  | 0, acc => by simp [rep]
  | k + 1, acc => by rw [List.replicate_succ, List.foldl_cons, mul_fold c k, Array.toList_append, rep_succ, List.append_assoc]
theorem mul_S (w : List Nat) (n : Int) : Txt.mul (S w) n = S (rep n.toNat w) := by
  apply S_ext
  unfold Txt.mul
  by_cases h : n < 1
  · rw [if_pos h, show n.toNat = 0 by omega]; rfl
  · rw [if_neg h]
    by_cases h2 : (n == 1 || (S w).length == 0) = true
    · rw [if_pos h2]
      rw [Bool.or_eq_true] at h2
      rcases h2 with h2 | h2
      · have : n = 1 := by simpa using h2
        subst this
        simp [rep]
      · have : w = [] := by rw [S_len] at h2; simpa using h2
        subst this
        simp [rep]
    · rw [if_neg h2]
      have := mul_fold w.toArray n.toNat #[]
      simpa using this
theorem count_S (l : List Nat) (c : Nat) : Txt.count (S l) (S [c]) = (l.count c : Int) := by
  have h2 : ∀ l : List Nat, PyProof.Rows.cnt c l = (l.count c : Int) := by
    intro l
    induction l with
    | nil => rfl
    | cons n r ih =>
      rw [PyProof.Rows.cnt_cons, ih, List.count_cons]
      by_cases e : n = c
      · subst e; simp; omega
      · simp [e]
  exact (PyProof.Rows.count_is (S l) c).trans (h2 l)
theorem cut_hi (l : List Nat) (p : Nat) : cutS (S l) none (some (p : Int)) = S (l.take p) := by
  apply S_ext
  unfold cutS
  rw [HT.sIx_none, HT.sIx_nat, S_len, List.drop_zero, Nat.sub_zero]
  exact (take_min l p l.length rfl).symm
theorem cut_lo (l : List Nat) (p : Nat) : cutS (S l) (some (p : Int)) none = S (l.drop p) := by
  apply S_ext
  unfold cutS
  rw [HT.sIx_none, HT.sIx_nat, S_len]
  show ((l.drop (min p l.length)).take (l.length - min p l.length)) = l.drop p
  by_cases h : p ≤ l.length
  · rw [Nat.min_eq_left h, List.take_of_length_le (by simp)]
  · rw [Nat.min_eq_right (by omega), List.drop_eq_nil_of_le (Nat.le_refl _), List.drop_eq_nil_of_le (by omega), List.take_nil]
theorem joinL_nil : ∀ ys : List (List Nat), TL.joinL [] ys = ys.flatten
  | [] => rfl
  | [x] => by show x = [x].flatten; simp
  | x :: y :: r => by
    show x ++ ([] ++ TL.joinL [] (y :: r)) = _
    rw [joinL_nil (y :: r)]; rfl
theorem map_tl_S (ys : List (List Nat)) : (ys.map S).map TL.tl = ys := by
  induction ys with
  | nil => rfl
  | cons x l ih => exact congrArg (fun z => x :: z) ih
theorem join_S (ys : List (List Nat)) : Txt.join (S []) (ys.map S) = S ys.flatten := by
  rw [TL.join_eq]
  apply S_ext
  have := TL.tl_join (S []) (ys.map S)
  rw [map_tl_S] at this
  exact this.trans (joinL_nil ys)
/-! ### running them -/
section
variable {μ : Mu} {Q : D → Mu → Prop}
theorem ok_bm {ck : Mu → D → Bool} {o : D → List D → Cm D} {fo : Sl → Cm D} {fs : Sl → Cm (List D)} {sl : Sl} : Ok (eBM ck o fo fs sl) μ Q ↔ Ok (fo sl) μ fun x μ1 => ck μ1 x = true ∧ Ok (fs sl) μ1 fun ds μ2 => Ok (o x ds) μ2 Q := by
  unfold eBM
  simp only [ok_bind, ok_look]
  have k : ∀ (x : D) (μ1 : Mu), (∃ a, (if ck μ1 x = true then some x else none) = some a ∧ Ok (fs sl) μ1 fun ds μ2 => Ok (o a ds) μ2 Q) ↔ (ck μ1 x = true ∧ Ok (fs sl) μ1 fun ds μ2 => Ok (o x ds) μ2 Q) := fun x μ1 => by
    by_cases h : ck μ1 x = true
    · rw [if_pos h]
      exact ⟨fun ⟨a, e, q⟩ => by cases e; exact ⟨h, q⟩, fun q => ⟨x, rfl, q.2⟩⟩
    · rw [if_neg h]
      exact ⟨fun ⟨a, e, q⟩ => (by cases e), fun q => absurd q.1 h⟩
  simp only [k]
theorem ok_mulS' {w : List Nat} {n : Int} (h0 : 0 ≤ n) (h1 : n ≤ 16777216) (h2 : w.length * n.toNat ≤ 16777216) : Ok (oMul (.str (S w)) (.int n)) μ Q ↔ Q (.str (S (rep n.toNat w))) μ := by
  show Ok (if 0 ≤ n ∧ n ≤ 16777216 ∧ (S w).length * n.toNat ≤ 16777216 then Cm.ok (D.str (Txt.mul (S w) n)) else Cm.fail) μ Q ↔ _
  rw [if_pos ⟨h0, h1, by rw [S_len]; exact h2⟩, ok_ok, mul_S]
theorem ok_slHi {l : List Nat} {p : Nat} (h : l.length ≤ sizeLine) : Ok (oSl (.str (S l)) none (some (p : Int))) μ Q ↔ Q (.str (S (l.take p))) μ := by
  show Ok (if (S l).length ≤ sizeLine then Cm.ok (D.str (cutS (S l) none (some (p : Int)))) else Cm.fail) μ Q ↔ _
  rw [if_pos (by rw [S_len]; exact h), ok_ok, cut_hi]
theorem ok_slLo {l : List Nat} {p : Nat} (h : l.length ≤ sizeLine) : Ok (oSl (.str (S l)) (some (p : Int)) none) μ Q ↔ Q (.str (S (l.drop p))) μ := by
  show Ok (if (S l).length ≤ sizeLine then Cm.ok (D.str (cutS (S l) (some (p : Int)) none)) else Cm.fail) μ Q ↔ _
  rw [if_pos (by rw [S_len]; exact h), ok_ok, cut_lo]
theorem ok_sl {f : Sl → Cm D} {lo hi : Sl → Cm (Option Int)} {sl : Sl} : Ok (eSl f lo hi sl) μ Q ↔ Ok (f sl) μ fun x μ1 => Ok (lo sl) μ1 fun l μ2 => Ok (hi sl) μ2 fun h μ3 => Ok (oSl x l h) μ3 Q := by
  unfold eSl
  simp only [ok_bind]
theorem ok_pNo {sl : Sl} {Q : Option Int → Mu → Prop} : Ok (pNo sl) μ Q ↔ Q none μ := ok_ok
theorem ok_pSome {f : Sl → Cm D} {sl : Sl} {Q : Option Int → Mu → Prop} : Ok (pSome f sl) μ Q ↔ Ok (f sl) μ fun d μ1 => ∃ i, d = .int i ∧ Q (some i) μ1 := by
  unfold pSome
  rw [ok_bind]
  have k : ∀ (d : D) (μ1 : Mu), Ok (match d with | .int i => Cm.ok (some i) | _ => Cm.fail) μ1 Q ↔ ∃ i, d = .int i ∧ Q (some i) μ1 := fun d μ1 => by
    cases d with
    | int i => exact ok_ok.trans ⟨fun q => ⟨i, rfl, q⟩, fun ⟨j, e, q⟩ => by cases e; exact q⟩
    | _ => exact ok_fail.trans ⟨fun q => q.elim, fun ⟨j, e, q⟩ => by cases e⟩
  exact ⟨fun h => h.imp fun d μ1 h => (k d μ1).mp h, fun h => h.imp fun d μ1 h => (k d μ1).mpr h⟩
theorem ok_countS {l : List Nat} {c : Nat} : Ok (oCountS (.str (S l)) [.str (S [c])]) μ Q ↔ Q (.int (l.count c)) μ := by
  show Ok (Cm.ok (D.int (Txt.count (S l) (S [c])))) μ Q ↔ _
  rw [ok_ok, count_S]
theorem ok_lenS {l : List Nat} (h : l.length ≤ sizeLine) : Ok (oLen [.str (S l)]) μ Q ↔ Q (.int l.length) μ := by
  have e : (lenD μ (.str (S l))).map (fun n : Nat => D.int (n : Int)) = some (.int l.length) := by
    show (if (S l).length ≤ sizeLine then some (S l).length else none).map (fun n : Nat => D.int (n : Int)) = _
    rw [S_len, if_pos h]; rfl
  refine ok_look.trans ⟨fun ⟨a, e1, q⟩ => ?_, fun q => ⟨_, e, q⟩⟩
  have e1 : (lenD μ (.str (S l))).map (fun n : Nat => D.int (n : Int)) = some a := e1
  rw [e] at e1; cases e1; exact q
theorem ok_look_of {α : Type} {f : Mu → Option α} {a : α} {Q : α → Mu → Prop} (e : f μ = some a) : Ok (Cm.look f) μ Q ↔ Q a μ := ok_look.trans ⟨fun ⟨b, e1, q⟩ => by rw [e] at e1; cases e1; exact q, fun q => ⟨_, e, q⟩⟩
theorem ok_lenL {xs : List D} : Ok (oLen [.lst xs]) μ Q ↔ Q (.int xs.length) μ := ok_look_of (f := fun μ => (lenD μ (.lst xs)).map fun n : Nat => D.int (n : Int)) rfl
theorem ok_lenT {xs : List D} : Ok (oLen [.tup xs]) μ Q ↔ Q (.int xs.length) μ := ok_look_of (f := fun μ => (lenD μ (.tup xs)).map fun n : Nat => D.int (n : Int)) rfl
theorem ok_ixS {l : List Nat} {i : Int} {c : Nat} (h : l.length ≤ sizeLine) (e : atI l i = some c) : Ok (oIx (.str (S l)) (.int i)) μ Q ↔ Q (.str (S [c])) μ := by
  show Ok (if (S l).length ≤ sizeLine then Cm.lift ((atI (S l).cps.toList i).map fun c => D.str ⟨#[c]⟩) else Cm.fail) μ Q ↔ _
  have e2 : (atI (S l).cps.toList i).map (fun c => D.str ⟨#[c]⟩) = some (.str (S [c])) := by
    show (atI l i).map (fun c => D.str ⟨#[c]⟩) = _
    rw [e]; rfl
  rw [if_pos (by rw [S_len]; exact h), e2, ok_lift]
  exact ⟨fun ⟨a, e, q⟩ => by cases e; exact q, fun q => ⟨_, rfl, q⟩⟩
theorem strs_S : ∀ ys : List (List Nat), strsD (ys.map fun y => D.str (S y)) = some (ys.map S)
  | [] => rfl
  | y :: ys => by
    show (strsD (ys.map fun y => D.str (S y))).map (S y :: ·) = _
    rw [strs_S ys]; rfl
theorem lens_S : ∀ ys : List (List Nat), ((ys.map S).map (·.length)).sum = ys.flatten.length
  | [] => rfl
  | y :: ys => by
    show (S y).length + ((ys.map S).map (·.length)).sum = _
    rw [lens_S ys, S_len, List.flatten_cons, List.length_append]
theorem ok_joinS {ys : List (List Nat)} (h : ys.flatten.length ≤ 16777216) : Ok (oJoin (.str (S [])) [.lst (ys.map fun y => D.str (S y))]) μ Q ↔ Q (.str (S ys.flatten)) μ := by
  have e : (dLT μ (.lst (ys.map fun y => D.str (S y)))).bind (fun xs => (strsD xs).bind fun ys => if (ys.map (·.length)).sum + ys.length * (S []).length ≤ 16777216 then some (D.str (Txt.join (S []) ys)) else none) = some (.str (S ys.flatten)) := by
    show (strsD (ys.map fun y => D.str (S y))).bind _ = _
    rw [strs_S, Option.bind_some, lens_S, S_len, List.length_nil, Nat.mul_zero, Nat.add_zero, if_pos h, join_S]
  refine ok_look.trans ⟨fun ⟨a, e1, q⟩ => ?_, fun q => ⟨_, e, q⟩⟩
  have e1 : (dLT μ (.lst (ys.map fun y => D.str (S y)))).bind (fun xs => (strsD xs).bind fun ys => if (ys.map (·.length)).sum + ys.length * (S []).length ≤ 16777216 then some (D.str (Txt.join (S []) ys)) else none) = some a := e1
  rw [e] at e1; cases e1; exact q
theorem ok_min2 {i j : Int} : Ok (oMin2 [.int i, .int j]) μ Q ↔ Q (.int (min i j)) μ := by
  show Ok (Cm.ok (D.int (if j < i then j else i))) μ Q ↔ _
  rw [ok_ok]
  have : (if j < i then j else i) = min i j := by
    by_cases h : j < i
    · rw [if_pos h]; omega
    · rw [if_neg h]; omega
  rw [this]
theorem ok_eqI {i j : Int} : Ok (oEq (.int i) (.int j)) μ Q ↔ Q (.bl (i == j)) μ := ok_look.trans ⟨fun ⟨a, e, q⟩ => by cases e; exact q, fun q => ⟨_, rfl, q⟩⟩
theorem ok_neI {i j : Int} : Ok (oNe (.int i) (.int j)) μ Q ↔ Q (.bl (!(i == j))) μ := ok_look.trans ⟨fun ⟨a, e, q⟩ => by cases e; exact q, fun q => ⟨_, rfl, q⟩⟩
theorem pyS_str {l : List Nat} (h : PyData.strOk (S l) = true) : pyS μ (.str (S l)) = some (.str (S l)) := by
  show (if SeqAt.shaped (.str (S l)) = true then some (PyData.str (S l)) else none) = _
  rw [if_pos]
  show (PyData.strOk (S l) && decide (PyData.depth (.str (S l)) ≤ 64)) = true
  rw [h]; rfl
theorem ok_eqS {x y : List Nat} (hx : PyData.strOk (S x) = true) (hy : PyData.strOk (S y) = true) : Ok (oEq (.str (S x)) (.str (S y))) μ Q ↔ Q (.bl (decide (x = y))) μ := by
  refine ok_look_of (f := fun μ => (pyS μ (.str (S x))).bind fun p => (pyS μ (.str (S y))).bind fun q => some (D.bl (PyData.eqv p q))) ?_
  rw [pyS_str hx, pyS_str hy]
  show some (D.bl (S x == S y)) = _
  congr 2
  by_cases h : x = y
  · subst h; simp
  · have : ¬ S x = S y := fun e => h (by have := congrArg (fun z : Str => z.cps.toList) e; simpa using this)
    rw [decide_eq_false h]
    exact beq_eq_false_iff_ne.mpr this
theorem ok_call_iff {n : Nat} {den : List D → Cm D} {ds : List D} (hl : ds.length = n) : Ok (oCall n den ds) μ Q ↔ Ok (den ds) μ Q := by unfold oCall; rw [if_pos hl]
theorem ok_oLs {xs : List D} : Ok (oLs xs) μ Q ↔ Q (.lst xs) μ := ok_ok
theorem ok_tYes {sl : Sl} {Q : Bool → Mu → Prop} : Ok (tYesD sl) μ Q ↔ Q true μ := ok_ok
end
end TX

namespace DL
open PySem PySem.Spec L2
/-! ## meanings, run: all by equivalences, exceptions too -/
def Rn {α : Type} (c : Cm α) (μ : Mu) (Q : α → Mu → Prop) (E : Exn → Mu → Prop) : Prop := match c μ with
  | none => False
  | some (.ok a, μ1) => Q a μ1
  | some (.ex x, μ1) => E x μ1
section
variable {α β : Type} {μ : Mu} {Q : α → Mu → Prop} {E : Exn → Mu → Prop}
theorem Ok.rn {c : Cm α} (h : Ok c μ Q) : Rn c μ Q E := by
  obtain ⟨a, μ', e, q⟩ := h
  unfold Rn; rw [e]; exact q
theorem rn_ok_of {c : Cm α} (h : Rn c μ Q fun _ _ => False) : Ok c μ Q := by
  unfold Rn at h
  split at h
  · exact h.elim
  · rename_i a μ1 e; exact ⟨a, μ1, e, h⟩
  · exact h.elim
theorem Rn.imp {c : Cm α} {Q' : α → Mu → Prop} {E' : Exn → Mu → Prop} (h : Rn c μ Q E) (i : ∀ a μ', Q a μ' → Q' a μ') (j : ∀ x μ', E x μ' → E' x μ') : Rn c μ Q' E' := by
  unfold Rn at h ⊢
  split at h
  · exact h.elim
  · rename_i a μ1 e; exact i _ _ h
  · rename_i a μ1 e; exact j _ _ h
theorem Rn.congr {c : Cm α} {Q' : α → Mu → Prop} (k : ∀ a μ', Q a μ' ↔ Q' a μ') : Rn c μ Q E ↔ Rn c μ Q' E := ⟨fun h => h.imp (fun a μ' h => (k a μ').mp h) (fun _ _ h => h), fun h => h.imp (fun a μ' h => (k a μ').mpr h) (fun _ _ h => h)⟩
theorem rn_ok {a : α} : Rn (Cm.ok a) μ Q E ↔ Q a μ := Iff.rfl
theorem rn_fail : Rn (Cm.fail (α := α)) μ Q E ↔ False := Iff.rfl
theorem rn_bind {m : Cm β} {f : β → Cm α} : Rn (m.bind f) μ Q E ↔ Rn m μ (fun a μ1 => Rn (f a) μ1 Q E) E := by
  unfold Rn Cm.bind
  cases m μ with
  | none => exact Iff.rfl
  | some p => obtain ⟨r, μ1⟩ := p; cases r <;> exact Iff.rfl
theorem rn_lift {o : Option α} : Rn (Cm.lift o) μ Q E ↔ ∃ a, o = some a ∧ Q a μ := by
  unfold Rn Cm.lift
  cases o with
  | none => exact ⟨fun h => h.elim, fun ⟨a, h, _⟩ => by cases h⟩
  | some a => exact ⟨fun h => ⟨a, rfl, h⟩, fun ⟨b, h, q⟩ => by cases h; exact q⟩
theorem rn_look {f : Mu → Option α} : Rn (Cm.look f) μ Q E ↔ ∃ a, f μ = some a ∧ Q a μ := by
  unfold Rn Cm.look
  cases e : f μ with
  | none => exact ⟨fun h => h.elim, fun ⟨a, h, _⟩ => by cases h⟩
  | some a => exact ⟨fun h => ⟨a, rfl, h⟩, fun ⟨b, h, q⟩ => by cases h; exact q⟩
theorem rn_ite {p : Prop} [Decidable p] {a b : Cm α} : Rn (if p then a else b) μ Q E ↔ if p then Rn a μ Q E else Rn b μ Q E := by by_cases h : p <;> simp [h]
theorem rn_guard {p : Prop} [Decidable p] {a : Cm α} : Rn (if p then a else Cm.fail) μ Q E ↔ p ∧ Rn a μ Q E := by
  by_cases h : p
  · rw [if_pos h]; exact ⟨fun q => ⟨h, q⟩, fun q => q.2⟩
  · rw [if_neg h]; exact ⟨fun q => q.elim, fun q => absurd q.1 h⟩
end
section
variable {μ : Mu} {Q : D → Mu → Prop} {E : Exn → Mu → Prop} {sl : Sl}
theorem rn_var {i : Nat} : Rn (eVar i sl) μ Q E ↔ ∃ d, sl[i]?.bind id = some d ∧ Q d μ := rn_lift
theorem rn_k {d : D} : Rn (eK d sl) μ Q E ↔ Q d μ := Iff.rfl
theorem rn_op2 {o : D → D → Cm D} {f g : Sl → Cm D} : Rn (eOp2 o f g sl) μ Q E ↔ Rn (f sl) μ (fun x μ1 => Rn (g sl) μ1 (fun y μ2 => Rn (o x y) μ2 Q E) E) E := by
  unfold eOp2; simp only [rn_bind]
theorem rn_cb {o : List D → Cm D} {fs : Sl → Cm (List D)} : Rn (eCB o fs sl) μ Q E ↔ Rn (fs sl) μ (fun ds μ1 => Rn (o ds) μ1 Q E) E := rn_bind
theorem rn_nil {Q : List D → Mu → Prop} : Rn (aNil sl) μ Q E ↔ Q [] μ := Iff.rfl
theorem rn_cons {f : Sl → Cm D} {g : Sl → Cm (List D)} {Q : List D → Mu → Prop} : Rn (aCons f g sl) μ Q E ↔ Rn (f sl) μ (fun d μ1 => Rn (g sl) μ1 (fun ds μ2 => Q (d :: ds) μ2) E) E := by
  unfold aCons; simp only [rn_bind, rn_ok]
theorem rn_un {o : D → Cm D} {f : Sl → Cm D} : Rn (eUn o f sl) μ Q E ↔ Rn (f sl) μ (fun x μ1 => Rn (o x) μ1 Q E) E := rn_bind
theorem rn_i2 {C : Int → Int → Prop} [∀ i j, Decidable (C i j)] {g : Int → Int → D} {i j : Int} : Rn (oI2 C g (.int i) (.int j)) μ Q E ↔ C i j ∧ Q (g i j) μ := rn_guard (a := Cm.ok (g i j))
theorem rn_addI {i j : Int} : Rn (oAdd (.int i) (.int j)) μ Q E ↔ Q (.int (i + j)) μ := Iff.rfl
theorem rn_mul {i j : Int} : Rn (oMul (.int i) (.int j)) μ Q E ↔ i.natAbs.log2 + j.natAbs.log2 < 1000000 ∧ Q (.int (i * j)) μ := rn_guard (p := i.natAbs.log2 + j.natAbs.log2 < 1000000) (a := Cm.ok (D.int (i * j)))
theorem rn_ci {p : Int → Int → Bool} {i j : Int} : Rn (oCi p (.int i) (.int j)) μ Q E ↔ Q (.bl (p i j)) μ := by
  unfold oCi
  first | exact Iff.rfl | exact rn_i2.trans ⟨fun q => q.2, fun q => ⟨trivial, q⟩⟩
theorem rn_neg {i : Int} : Rn (oNeg (.int i)) μ Q E ↔ Q (.int (-i)) μ := Iff.rfl
theorem rn_tBl {f : Sl → Cm D} {Q : Bool → Mu → Prop} : Rn (tBl f sl) μ Q E ↔ Rn (f sl) μ (fun d μ1 => ∃ b, d = .bl b ∧ Q b μ1) E := by
  unfold tBl cBl
  rw [rn_bind]
  have k : ∀ (d : D) (μ1 : Mu), Rn (Cm.lift (match d with | .bl b => some b | _ => none)) μ1 Q E ↔ ∃ b, d = .bl b ∧ Q b μ1 := fun d μ1 => by
    rw [rn_lift]
    cases d with
    | bl b => exact ⟨fun ⟨a, h, q⟩ => ⟨a, by cases h; rfl, q⟩, fun ⟨a, h, q⟩ => ⟨a, by cases h; rfl, q⟩⟩
    | _ => exact ⟨fun ⟨a, h, q⟩ => (by cases h), fun ⟨a, h, q⟩ => by cases h⟩
  exact Rn.congr k
theorem rn_tNt {f : Sl → Cm Bool} {Q : Bool → Mu → Prop} : Rn (tNt f sl) μ Q E ↔ Rn (f sl) μ (fun b μ1 => Q (!b) μ1) E := by unfold tNt; simp only [rn_bind, rn_ok]
theorem rn_tAn {f g : Sl → Cm Bool} {Q : Bool → Mu → Prop} : Rn (tAn f g sl) μ Q E ↔ Rn (f sl) μ (fun b μ1 => if b = true then Rn (g sl) μ1 Q E else Q false μ1) E := by unfold tAn; simp only [rn_bind, rn_ite, rn_ok]
theorem rn_tOo {f g : Sl → Cm Bool} {Q : Bool → Mu → Prop} : Rn (tOo f g sl) μ Q E ↔ Rn (f sl) μ (fun b μ1 => if b = true then Q true μ1 else Rn (g sl) μ1 Q E) E := by unfold tOo; simp only [rn_bind, rn_ite, rn_ok]
theorem rn_tru {d : D} {Q : Bool → Mu → Prop} : Rn (fun μ => match dTruth μ d with | some b => some (R.ok b, μ) | none => none) μ Q E ↔ ∃ b, dTruth μ d = some b ∧ Q b μ := by
  unfold Rn
  cases h : dTruth μ d with
  | none => simp only [h]; exact ⟨fun h => h.elim, fun ⟨b, e, q⟩ => by cases e⟩
  | some b => simp only [h]; exact ⟨fun q => ⟨b, rfl, q⟩, fun ⟨c, e, q⟩ => by cases e; exact q⟩
theorem rn_tTru {f : Sl → Cm D} {Q : Bool → Mu → Prop} : Rn (tTru f sl) μ Q E ↔ Rn (f sl) μ (fun d μ1 => ∃ b, dTruth μ1 d = some b ∧ Q b μ1) E := by
  unfold tTru cTru
  rw [rn_bind]
  exact Rn.congr fun d μ1 => rn_tru
theorem rn_truD {d : D} {Q : Bool → Mu → Prop} : Rn (cTruD d) μ Q E ↔ ∃ b, dTruth μ d = some b ∧ Q b μ := rn_tru
theorem rn_and {f g : Sl → Cm D} : Rn (eAnd f g sl) μ Q E ↔ Rn (f sl) μ (fun d μ1 => ∃ b, dTruth μ1 d = some b ∧ if b = true then Rn (g sl) μ1 Q E else Q d μ1) E := by
  unfold eAnd; simp only [rn_bind, rn_truD, rn_ite, rn_ok]
theorem rn_or {f g : Sl → Cm D} : Rn (eOr f g sl) μ Q E ↔ Rn (f sl) μ (fun d μ1 => ∃ b, dTruth μ1 d = some b ∧ if b = true then Q d μ1 else Rn (g sl) μ1 Q E) E := by
  unfold eOr; simp only [rn_bind, rn_truD, rn_ite, rn_ok]
theorem rn_not {f : Sl → Cm D} : Rn (eNot f sl) μ Q E ↔ Rn (f sl) μ (fun d μ1 => ∃ b, dTruth μ1 d = some b ∧ Q (.bl (!b)) μ1) E := by
  unfold eNot; simp only [rn_bind, rn_truD, rn_ok]
theorem rn_if {c : Sl → Cm Bool} {f g : Sl → Cm D} : Rn (eIf c f g sl) μ Q E ↔ Rn (c sl) μ (fun b μ1 => if b = true then Rn (f sl) μ1 Q E else Rn (g sl) μ1 Q E) E := by
  unfold eIf; simp only [rn_bind, rn_ite]
theorem rn_bm {ck : Mu → D → Bool} {o : D → List D → Cm D} {fo : Sl → Cm D} {fs : Sl → Cm (List D)} : Rn (eBM ck o fo fs sl) μ Q E ↔ Rn (fo sl) μ (fun x μ1 => ck μ1 x = true ∧ Rn (fs sl) μ1 (fun ds μ2 => Rn (o x ds) μ2 Q E) E) E := by
  unfold eBM
  simp only [rn_bind, rn_look]
  have k : ∀ (x : D) (μ1 : Mu), (∃ a, (if ck μ1 x = true then some x else none) = some a ∧ Rn (fs sl) μ1 (fun ds μ2 => Rn (o a ds) μ2 Q E) E) ↔ (ck μ1 x = true ∧ Rn (fs sl) μ1 (fun ds μ2 => Rn (o x ds) μ2 Q E) E) := fun x μ1 => by
    by_cases h : ck μ1 x = true
    · rw [if_pos h]
      exact ⟨fun ⟨a, e, q⟩ => by cases e; exact ⟨h, q⟩, fun q => ⟨x, rfl, q.2⟩⟩
    · rw [if_neg h]
      exact ⟨fun ⟨a, e, q⟩ => (by cases e), fun q => absurd q.1 h⟩
  exact Rn.congr k
theorem rn_sl {f : Sl → Cm D} {lo hi : Sl → Cm (Option Int)} : Rn (eSl f lo hi sl) μ Q E ↔ Rn (f sl) μ (fun x μ1 => Rn (lo sl) μ1 (fun l μ2 => Rn (hi sl) μ2 (fun h μ3 => Rn (oSl x l h) μ3 Q E) E) E) E := by
  unfold eSl
  simp only [rn_bind]
theorem rn_pNo {Q : Option Int → Mu → Prop} : Rn (pNo sl) μ Q E ↔ Q none μ := Iff.rfl
theorem rn_pSome {f : Sl → Cm D} {Q : Option Int → Mu → Prop} : Rn (pSome f sl) μ Q E ↔ Rn (f sl) μ (fun d μ1 => ∃ i, d = .int i ∧ Q (some i) μ1) E := by
  unfold pSome
  rw [rn_bind]
  have k : ∀ (d : D) (μ1 : Mu), Rn (match d with | .int i => Cm.ok (some i) | _ => Cm.fail) μ1 Q E ↔ ∃ i, d = .int i ∧ Q (some i) μ1 := fun d μ1 => by
    cases d with
    | int i => exact rn_ok.trans ⟨fun q => ⟨i, rfl, q⟩, fun ⟨j, e, q⟩ => by cases e; exact q⟩
    | _ => exact rn_fail.trans ⟨fun q => q.elim, fun ⟨j, e, q⟩ => by cases e⟩
  exact Rn.congr k
theorem rn_chain {o o' : D → D → Cm D} {fa fb fc : Sl → Cm D} : Rn (eChain o o' fa fb fc sl) μ Q E ↔ Rn (fa sl) μ (fun x μ1 => Rn (fb sl) μ1 (fun y μ2 => Rn (o x y) μ2 (fun z μ3 => ∃ b, z = .bl b ∧ if b = true then Rn (fc sl) μ3 (fun w μ4 => Rn (o' y w) μ4 Q E) E else Q (.bl false) μ3) E) E) E := by
  unfold eChain
  simp only [rn_bind]
  have k : ∀ (y z : D) (μ3 : Mu), Rn (match z with | .bl true => (fc sl).bind fun w => o' y w | .bl false => Cm.ok (.bl false) | _ => Cm.fail) μ3 Q E ↔ ∃ b, z = .bl b ∧ if b = true then Rn (fc sl) μ3 (fun w μ4 => Rn (o' y w) μ4 Q E) E else Q (.bl false) μ3 := fun y z μ3 => by
    cases z with
    | bl b =>
      cases b with
      | true => exact rn_bind.trans ⟨fun q => ⟨true, rfl, by rw [if_pos rfl]; exact q⟩, fun ⟨b, e, q⟩ => by cases e; rw [if_pos rfl] at q; exact q⟩
      | false => exact rn_ok.trans ⟨fun q => ⟨false, rfl, by rw [if_neg (by decide)]; exact q⟩, fun ⟨b, e, q⟩ => by cases e; rw [if_neg (by decide)] at q; exact q⟩
    | _ => exact rn_fail.trans ⟨fun q => q.elim, fun ⟨b, e, q⟩ => by cases e⟩
  exact Rn.congr fun x μ1 => Rn.congr fun y μ2 => Rn.congr fun z μ3 => k y z μ3
theorem rn_rep {mk : List D → Cm D} {fs : Sl → Cm (List D)} {fb : Sl → Cm D} : Rn (eRep mk fs fb sl) μ Q E ↔ Rn (fs sl) μ (fun ds μ1 => ds.length ≤ 1000 ∧ Rn (fb sl) μ1 (fun d μ2 => ∃ k, d = .int k ∧ (-(2 ^ 63) ≤ k ∧ k < 2 ^ 63 ∧ ds.length * k.toNat ≤ sizeLine) ∧ Rn (mk (List.replicate k.toNat ds).flatten) μ2 Q E) E) E := by
  unfold eRep
  simp only [rn_bind, rn_guard]
  have k : ∀ (ds : List D) (d : D) (μ1 : Mu), Rn (match d with | .int k => if -(2 ^ 63) ≤ k ∧ k < 2 ^ 63 ∧ ds.length * k.toNat ≤ sizeLine then mk (List.replicate k.toNat ds).flatten else Cm.fail | _ => Cm.fail) μ1 Q E ↔ ∃ k, d = .int k ∧ (-(2 ^ 63) ≤ k ∧ k < 2 ^ 63 ∧ ds.length * k.toNat ≤ sizeLine) ∧ Rn (mk (List.replicate k.toNat ds).flatten) μ1 Q E := fun ds d μ1 => by
    cases d with
    | int i => exact rn_guard.trans ⟨fun q => ⟨i, rfl, q⟩, fun ⟨j, e, q⟩ => by cases e; exact q⟩
    | _ => exact rn_fail.trans ⟨fun q => q.elim, fun ⟨j, e, q⟩ => by cases e⟩
  exact Rn.congr fun ds μ1 => and_congr_right fun _ => Rn.congr fun d μ2 => k ds d μ2
theorem rn_kw {n : Nat} {den : List D → Cm D} {pm : List Nat} {fs : Sl → Cm (List D)} : Rn (eKw n den pm fs sl) μ Q E ↔ Rn (fs sl) μ (fun ds μ1 => Rn (oCall n den (ord pm ds)) μ1 Q E) E := rn_bind
theorem rn_mut {ds : List D} : Rn (oMut ds) μ Q E ↔ ds.length ≤ sizeLine ∧ Q (.mref μ.length) (μ ++ [some (.lst ds)]) := by
  unfold Rn oMut
  by_cases h : ds.length ≤ sizeLine
  · rw [if_pos h]; exact ⟨fun q => ⟨h, q⟩, fun q => q.2⟩
  · rw [if_neg h]; exact ⟨fun q => q.elim, fun q => absurd q.1 h⟩
theorem rn_lst {ds : List D} : Rn (oLst ds) μ Q E ↔ ds.length ≤ sizeLine ∧ Q (.lst ds) μ := rn_guard (a := Cm.ok (D.lst ds))
theorem rn_ls {ds : List D} : Rn (oLs ds) μ Q E ↔ Q (.lst ds) μ := Iff.rfl
theorem rn_tup {ds : List D} : Rn (oTup ds) μ Q E ↔ ds.length ≤ sizeLine ∧ Q (.tup ds) μ := rn_guard (a := Cm.ok (D.tup ds))
theorem rn_mu {h : Nat} {g : List D → Option (List D × D)} : Rn (oMu h g) μ Q E ↔ ∃ xs ys d, μ[h]? = some (some (.lst xs)) ∧ g xs = some (ys, d) ∧ Q d (μ.set h (some (.lst ys))) := by
  constructor
  · intro q
    unfold Rn at q
    cases e : oMu h g μ with
    | none => rw [e] at q; exact q.elim
    | some p =>
      obtain ⟨r, μ'⟩ := p
      obtain ⟨xs, ys, d, h1, h2, rfl, rfl⟩ := oMu_inv e
      rw [e] at q
      exact ⟨xs, ys, d, h1, h2, q⟩
  · rintro ⟨xs, ys, d, h1, h2, q⟩
    unfold Rn oMu
    rw [h1]
    simp only [h2]
    exact q
theorem rn_app {h : Nat} {y : D} : Rn (oAppend (.mref h) [y]) μ Q E ↔ ∃ xs, μ[h]? = some (some (.lst xs)) ∧ xs.length < sizeLine ∧ Q .non (μ.set h (some (.lst (xs ++ [y])))) := by
  refine rn_mu.trans ⟨fun ⟨xs, ys, d, h1, h2, q⟩ => ?_, fun ⟨xs, h1, h2, q⟩ => ⟨xs, _, _, h1, if_pos h2, q⟩⟩
  by_cases hl : xs.length < sizeLine
  · rw [if_pos hl] at h2; cases h2; exact ⟨xs, h1, hl, q⟩
  · rw [if_neg hl] at h2; cases h2
theorem rn_setM {h : Nat} {i : Int} {v : D} : Rn (oSetIx (.mref h) (.int i) v) μ Q E ↔ ∃ xs, μ[h]? = some (some (.lst xs)) ∧ ∃ j, ixN xs.length i = some j ∧ Q .non (μ.set h (some (.lst (xs.set j v)))) := by
  refine rn_mu.trans ⟨fun ⟨xs, ys, d, h1, h2, q⟩ => ?_, fun ⟨xs, h1, j, h2, q⟩ => ⟨xs, _, _, h1, by rw [h2]; rfl, q⟩⟩
  cases e : ixN xs.length i with
  | none => rw [e] at h2; cases h2
  | some j => rw [e] at h2; cases h2; exact ⟨xs, h1, j, e, q⟩
theorem rn_ixM {h : Nat} {i : Int} : Rn (oIx (.mref h) (.int i)) μ Q E ↔ ∃ xs, μ[h]? = some (some (.lst xs)) ∧ ∃ d, atI xs i = some d ∧ Q d μ := by
  have e : ∀ μ, Rn (oIx (.mref h) (.int i)) μ Q E ↔ ∃ d, (dLT μ (.mref h)).bind (fun xs => atI xs i) = some d ∧ Q d μ := fun μ => rn_look
  rw [e]
  constructor
  · rintro ⟨d, h1, q⟩
    cases e1 : dLT μ (.mref h) with
    | none => rw [e1] at h1; cases h1
    | some xs => rw [e1] at h1; exact ⟨xs, mref_l e1, d, h1, q⟩
  · rintro ⟨xs, h1, d, h2, q⟩
    exact ⟨d, by rw [dLT_m h1]; exact h2, q⟩
theorem rn_ixL {xs : List D} {i : Int} : Rn (oIx (.lst xs) (.int i)) μ Q E ↔ ∃ d, atI xs i = some d ∧ Q d μ := rn_look
theorem rn_ixT {xs : List D} {i : Int} : Rn (oIx (.tup xs) (.int i)) μ Q E ↔ ∃ d, atI xs i = some d ∧ Q d μ := rn_look
theorem rn_lenL {xs : List D} : Rn (oLen [.lst xs]) μ Q E ↔ Q (.int xs.length) μ := (rn_look (f := fun μ => (lenD μ (.lst xs)).map fun n : Nat => D.int (n : Int))).trans ⟨fun ⟨a, e, q⟩ => by cases e; exact q, fun q => ⟨_, rfl, q⟩⟩
theorem rn_lenT {xs : List D} : Rn (oLen [.tup xs]) μ Q E ↔ Q (.int xs.length) μ := (rn_look (f := fun μ => (lenD μ (.tup xs)).map fun n : Nat => D.int (n : Int))).trans ⟨fun ⟨a, e, q⟩ => by cases e; exact q, fun q => ⟨_, rfl, q⟩⟩
theorem rn_lenM {h : Nat} : Rn (oLen [.mref h]) μ Q E ↔ ∃ xs, μ[h]? = some (some (.lst xs)) ∧ Q (.int xs.length) μ := by
  have e : ∀ μ, Rn (oLen [.mref h]) μ Q E ↔ ∃ d, (dLT μ (.mref h)).map (fun xs => D.int (xs.length : Int)) = some d ∧ Q d μ := fun μ => by
    refine (rn_look (f := fun μ => (lenD μ (.mref h)).map fun n : Nat => D.int (n : Int))).trans ?_
    have : (lenD μ (.mref h)).map (fun n : Nat => D.int (n : Int)) = (dLT μ (.mref h)).map (fun xs => D.int (xs.length : Int)) := by
      show ((dLT μ (.mref h)).map (·.length)).map _ = _
      rw [Option.map_map]; rfl
    simp only [this]
  rw [e]
  constructor
  · rintro ⟨d, h1, q⟩
    cases e1 : dLT μ (.mref h) with
    | none => rw [e1] at h1; cases h1
    | some xs => rw [e1] at h1; cases h1; exact ⟨xs, mref_l e1, q⟩
  · rintro ⟨xs, h1, q⟩
    exact ⟨_, by rw [dLT_m h1]; rfl, q⟩
theorem rn_min2 {i j : Int} : Rn (oMin2 [.int i, .int j]) μ Q E ↔ Q (.int (min i j)) μ := by
  show Q (.int (if j < i then j else i)) μ ↔ _
  have : (if j < i then j else i) = min i j := by
    by_cases h : j < i
    · rw [if_pos h]; omega
    · rw [if_neg h]; omega
  rw [this]
theorem rn_max2 {i j : Int} : Rn (oMax2 [.int i, .int j]) μ Q E ↔ Q (.int (max i j)) μ := by
  show Q (.int (if j > i then j else i)) μ ↔ _
  have : (if j > i then j else i) = max i j := by
    by_cases h : j > i
    · rw [if_pos h]; omega
    · rw [if_neg h]; omega
  rw [this]
theorem rn_divmod {i j : Int} : Rn (oDivmod [.int i, .int j]) μ Q E ↔ CDivP i j ∧ Q (.wtup [.int (i / j), .int (i % j)]) μ := rn_guard (p := CDivP i j) (a := Cm.ok (D.wtup [.int (i / j), .int (i % j)]))
theorem rn_eqI {i j : Int} : Rn (oEq (.int i) (.int j)) μ Q E ↔ Q (.bl (i == j)) μ := (rn_look (f := fun μ => (pyS μ (.int i)).bind fun p => (pyS μ (.int j)).bind fun q => some (D.bl (PyData.eqv p q)))).trans ⟨fun ⟨a, e, q⟩ => by cases e; exact q, fun q => ⟨_, rfl, q⟩⟩
theorem rn_neI {i j : Int} : Rn (oNe (.int i) (.int j)) μ Q E ↔ Q (.bl (!(i == j))) μ := (rn_look (f := fun μ => (pyS μ (.int i)).bind fun p => (pyS μ (.int j)).bind fun q => some (D.bl (!PyData.eqv p q)))).trans ⟨fun ⟨a, e, q⟩ => by cases e; exact q, fun q => ⟨_, rfl, q⟩⟩
theorem rn_isN {d : D} : Rn (oIsN d .non) μ Q E ↔ Q (.bl (dNon d)) μ := Iff.rfl
theorem rn_notN {d : D} : Rn (oNotN d .non) μ Q E ↔ Q (.bl (!dNon d)) μ := Iff.rfl
theorem rn_isB {d : D} {b : Bool} : Rn (oIsB d (.bl b)) μ Q E ↔ Q (.bl (isBl b d)) μ := Iff.rfl
theorem rn_notB {d : D} {b : Bool} : Rn (oNotB d (.bl b)) μ Q E ↔ Q (.bl (!isBl b d)) μ := Iff.rfl
theorem rn_intI {i : Int} : Rn (oIntOf [.int i]) μ Q E ↔ Q (.int i) μ := Iff.rfl
theorem rn_intB {b : Bool} : Rn (oIntOf [.bl b]) μ Q E ↔ Q (.int (if b then 1 else 0)) μ := Iff.rfl
theorem rn_tupL {xs : List D} : Rn (oTupOf [.lst xs]) μ Q E ↔ Q (.tup xs) μ := (rn_look (f := fun μ => (dLT μ (.lst xs)).map D.tup)).trans ⟨fun ⟨a, e, q⟩ => by cases e; exact q, fun q => ⟨_, rfl, q⟩⟩
theorem rn_tupT {xs : List D} : Rn (oTupOf [.tup xs]) μ Q E ↔ Q (.tup xs) μ := (rn_look (f := fun μ => (dLT μ (.tup xs)).map D.tup)).trans ⟨fun ⟨a, e, q⟩ => by cases e; exact q, fun q => ⟨_, rfl, q⟩⟩
theorem rn_tupM {h : Nat} : Rn (oTupOf [.mref h]) μ Q E ↔ ∃ xs, μ[h]? = some (some (.lst xs)) ∧ Q (.tup xs) μ := by
  refine (rn_look (f := fun μ => (dLT μ (.mref h)).map D.tup)).trans ⟨fun ⟨a, e, q⟩ => ?_, fun ⟨xs, h1, q⟩ => ⟨_, by rw [dLT_m h1]; rfl, q⟩⟩
  cases e1 : dLT μ (.mref h) with
  | none => rw [e1] at e; cases e
  | some xs => rw [e1] at e; cases e; exact ⟨xs, mref_l e1, q⟩
theorem rn_isi {T : String} {d : D} : Rn (oIsi T d) μ Q E ↔ ∃ b, (tyD μ d).bind (fun t => (kitB t T).map D.bl) = some b ∧ Q b μ := rn_look
theorem rn_isiT {Ts : List String} {d : D} : Rn (oIsiT Ts d) μ Q E ↔ ∃ b, (tyD μ d).bind (fun t => (kitBs t Ts).map D.bl) = some b ∧ Q b μ := rn_look
theorem rn_isi_of {T : String} {d : D} {b : Bool} (e : (tyD μ d).bind (fun t => (kitB t T).map D.bl) = some (.bl b)) : Rn (oIsi T d) μ Q E ↔ Q (.bl b) μ := rn_isi.trans ⟨fun ⟨a, h, q⟩ => by rw [e] at h; cases h; exact q, fun q => ⟨_, e, q⟩⟩
theorem ck_L {h : Nat} : (ckL μ (.mref h) = true) ↔ ∃ xs, μ[h]? = some (some (.lst xs)) := by
  unfold ckL
  cases e : dL μ (.mref h) with
  | none =>
    refine ⟨(fun h => by cases h), fun ⟨xs, h1⟩ => ?_⟩
    have : dL μ (.mref h) = some xs := dLT_m h1
    rw [e] at this; cases this
  | some xs => exact ⟨fun _ => ⟨xs, mref_l e⟩, fun _ => rfl⟩
theorem ck_S {x : Str} : (ckS μ (.str x) = true) ↔ True := ⟨fun _ => trivial, fun _ => rfl⟩
theorem dTr_bl {b : Bool} : dTruth μ (.bl b) = some b := rfl
theorem dTr_int {i : Int} : dTruth μ (.int i) = some (i != 0) := rfl
theorem dTr_non : dTruth μ .non = some false := rfl
theorem dTr_lst {xs : List D} : dTruth μ (.lst xs) = some (!xs.isEmpty) := rfl
end
/-! ### statements -/
section
variable {μ : Mu} {Q : SR → Mu → Prop} {sl : Sl}
theorem oks_exp_iff {α : Type} {f : Sl → Cm α} {k : α → Sl → CS} : OkS (sExp f k sl) μ Q ↔ Rn (f sl) μ (fun d μ1 => OkS (k d sl) μ1 Q) (fun x μ1 => Q (.ex x sl) μ1) := by
  unfold OkS sExp sBind Rn
  cases f sl μ with
  | none => exact ⟨fun ⟨r, μ', e, _⟩ => (by cases e), fun h => h.elim⟩
  | some p =>
    obtain ⟨r, μ1⟩ := p
    cases r with
    | ok a => exact Iff.rfl
    | ex x => exact ⟨fun ⟨r, μ', e, q⟩ => by cases e; exact q, fun q => ⟨_, _, rfl, q⟩⟩
theorem oks_rt {d : D} : OkS (sRt d) μ Q ↔ Q (.rt d) μ := ⟨fun ⟨_, _, e, q⟩ => by cases e; exact q, fun q => ⟨_, _, rfl, q⟩⟩
theorem oks_set_iff {i : Nat} {f : Sl → Cm D} : OkS (sSet i f sl) μ Q ↔ Rn (f sl) μ (fun d μ1 => Q (.nx (sl.set i (some d))) μ1) (fun x μ1 => Q (.ex x sl) μ1) := by
  unfold sSet; simp only [oks_exp_iff, oks_nx]
theorem oks_drop_iff {f : Sl → Cm D} : OkS (sDrop f sl) μ Q ↔ Rn (f sl) μ (fun d μ1 => Q (.nx sl) μ1) (fun x μ1 => Q (.ex x sl) μ1) := by
  unfold sDrop; simp only [oks_exp_iff, oks_nx]
theorem oks_ret_iff {f : Sl → Cm D} : OkS (sRet f sl) μ Q ↔ Rn (f sl) μ (fun d μ1 => Q (.rt d) μ1) (fun x μ1 => Q (.ex x sl) μ1) := by
  unfold sRet; simp only [oks_exp_iff, oks_rt]
theorem oks_retN_iff : OkS (sRetN sl) μ Q ↔ Q (.rt .non) μ := oks_rt
theorem oks_if_iff {c : Sl → Cm Bool} {f g : Sl → CS} : OkS (sIf c f g sl) μ Q ↔ Rn (c sl) μ (fun b μ1 => if b = true then OkS (f sl) μ1 Q else OkS (g sl) μ1 Q) (fun x μ1 => Q (.ex x sl) μ1) := by
  unfold sIf
  rw [oks_exp_iff]
  have k : ∀ (b : Bool) (μ1 : Mu), OkS (if b = true then f sl else g sl) μ1 Q ↔ if b = true then OkS (f sl) μ1 Q else OkS (g sl) μ1 Q := fun b μ1 => by cases b <;> exact Iff.rfl
  exact Rn.congr k
theorem oks_aug_iff {i : Nat} {o : D → D → Cm D} {f : Sl → Cm D} : OkS (sAug i o f sl) μ Q ↔ ∃ x, sl[i]?.bind id = some x ∧ Rn (f sl) μ (fun y μ1 => Rn (o x y) μ1 (fun d μ2 => Q (.nx (sl.set i (some d))) μ2) (fun x μ1 => Q (.ex x sl) μ1)) (fun x μ1 => Q (.ex x sl) μ1) := by
  unfold sAug; simp only [oks_exp_iff, oks_nx, rn_bind, rn_lift]
theorem oks_asg_iff {f : Sl → Cm D} {g : Tgt} : OkS (sAsg f g sl) μ Q ↔ Rn (f sl) μ (fun d μ1 => ∃ sl', g.go d sl = some sl' ∧ Q (.nx sl') μ1) (fun x μ1 => Q (.ex x sl) μ1) := by
  unfold sAsg
  rw [oks_exp_iff]
  have k : ∀ (d : D) (μ1 : Mu), OkS (match g.go d sl with | some sl' => sNx sl' | none => fun _ => none) μ1 Q ↔ ∃ sl', g.go d sl = some sl' ∧ Q (.nx sl') μ1 := fun d μ1 => by
    cases g.go d sl with
    | none => exact ⟨fun ⟨r, μ', e, _⟩ => (by cases e), fun ⟨sl', e, _⟩ => by cases e⟩
    | some sl2 => exact oks_nx.trans ⟨fun q => ⟨_, rfl, q⟩, fun ⟨sl', e, q⟩ => by cases e; exact q⟩
  exact Rn.congr k
theorem oks_setIx_iff {fe fo fi : Sl → Cm D} : OkS (sSetIx fe fo fi sl) μ Q ↔ Rn (fe sl) μ (fun v μ1 => Rn (fo sl) μ1 (fun o μ2 => Rn (fi sl) μ2 (fun i μ3 => Rn (oSetIx o i v) μ3 (fun _ μ4 => Q (.nx sl) μ4) (fun x μ1 => Q (.ex x sl) μ1)) (fun x μ1 => Q (.ex x sl) μ1)) (fun x μ1 => Q (.ex x sl) μ1)) (fun x μ1 => Q (.ex x sl) μ1) := by
  unfold sSetIx; simp only [oks_exp_iff, oks_nx, rn_bind]
theorem oks_brk : OkS (sBrk sl) μ Q ↔ Q (.bk sl) μ := ⟨fun ⟨_, _, e, q⟩ => by cases e; exact q, fun q => ⟨_, _, rfl, q⟩⟩
theorem oks_cnt : OkS (sCnt sl) μ Q ↔ Q (.ct sl) μ := ⟨fun ⟨_, _, e, q⟩ => by cases e; exact q, fun q => ⟨_, _, rfl, q⟩⟩
theorem nxt_ex {g : Sl → CS} {x : Exn} : nxt g Q (.ex x sl) μ ↔ Q (.ex x sl) μ := Iff.rfl
theorem oks_no : OkS (sNo sl) μ Q ↔ False := ⟨fun ⟨_, _, e, q⟩ => (by cases e), fun h => h.elim⟩
/-- while: I, with its measure -/
theorem oks_while {c : Sl → Cm Bool} {b : Sl → CS} (I : Nat → Sl → Mu → Prop) : ∀ (n : Nat) (sl : Sl) (μ : Mu), I n sl μ →
    (∀ n sl μ, I n sl μ → Rn (c sl) μ (fun k μ1 => if k = true then OkS (b sl) μ1 (turnQ [] (fun sl2 μ2 => ∃ m, m < n ∧ I m sl2 μ2) Q) else Q (.nx sl) μ1) (fun x μ1 => Q (.ex x sl) μ1)) → OkS (sWhile c b sl) μ Q := by
  intro n sl μ h0 hs
  suffices h : ∀ (n : Nat) (sl : Sl) (μ : Mu), I n sl μ → ∃ m r μ', wLoop c b m sl μ = some (r, μ') ∧ Q r μ' by
    obtain ⟨m, r, μ', h1, h2⟩ := h n sl μ h0
    exact ⟨r, μ', sWhile_iff.mpr ⟨m, h1⟩, h2⟩
  intro n
  induction n using Nat.strongRecOn with
  | ind n ih =>
    intro sl μ hI
    have q := hs n sl μ hI
    unfold Rn at q
    split at q
    · exact q.elim
    · rename_i k μ1 e
      cases k with
      | false =>
        rw [if_neg (by decide)] at q
        exact ⟨1, .nx sl, μ1, by unfold wLoop; rw [e]; rfl, q⟩
      | true =>
        rw [if_pos rfl] at q
        obtain ⟨r, μ2, eb, q⟩ := q
        cases r with
        | nx sl2 =>
          obtain ⟨_, m, hm, hI2⟩ := q
          obtain ⟨k, r, μ', h1, h2⟩ := ih m hm sl2 μ2 hI2
          exact ⟨k + 1, r, μ', by unfold wLoop; rw [e]; simp only [if_pos, eb]; exact h1, h2⟩
        | ct sl2 =>
          obtain ⟨_, m, hm, hI2⟩ := q
          obtain ⟨k, r, μ', h1, h2⟩ := ih m hm sl2 μ2 hI2
          exact ⟨k + 1, r, μ', by unfold wLoop; rw [e]; simp only [if_pos, eb]; exact h1, h2⟩
        | bk sl2 => exact ⟨1, _, _, by unfold wLoop; rw [e]; simp only [if_pos, eb], q⟩
        | rt d => exact ⟨1, _, _, by unfold wLoop; rw [e]; simp only [if_pos, eb], q⟩
        | ex x sl2 => exact ⟨1, _, _, by unfold wLoop; rw [e]; simp only [if_pos, eb], q⟩
    · rename_i x μ1 e
      exact ⟨1, .ex x sl, μ1, by unfold wLoop; rw [e], q⟩
/-- for, by equivalences -/
theorem oks_forR {f : Sl → Cm (List D × List (Nat × List D))} {g : Tgt} {body : Sl → CS} (I : List D → List (Nat × List D) → Nat → Sl → Mu → Prop)
    (h : Rn (f sl) μ (fun p μ1 => Guard p.2 μ1 ∧ I p.1 p.2 0 sl μ1 ∧ (∀ i d sl μ, p.1[i]? = some d → I p.1 p.2 i sl μ → ∃ sl1, g.go d sl = some sl1 ∧ OkS (body sl1) μ (turnQ p.2 (I p.1 p.2 (i + 1)) Q)) ∧ ∀ sl μ, I p.1 p.2 p.1.length sl μ → Q (.nx sl) μ) (fun x μ1 => Q (.ex x sl) μ1)) : OkS (sFor f g body sl) μ Q := by
  unfold sFor
  rw [oks_exp_iff]
  refine h.imp (fun p μ1 ⟨hg, h0, hs, he⟩ => ?_) (fun _ _ h => h)
  have : OkS (sLoop g body p.2 p.1 sl) μ1 Q := oks_loop (I p.1 p.2) p.1 0 sl μ1 h0 (fun i d sl μ e h' => by rw [Nat.zero_add] at h' ⊢; exact hs i d sl μ e h') (fun sl μ h' => he sl μ (by rw [Nat.zero_add] at h'; exact h'))
  obtain ⟨r, μ2, e, q⟩ := this
  exact ⟨r, μ2, by simp only [if_pos hg]; exact e, q⟩
theorem rn_iseq {f : Sl → Cm D} {Q : List D × List (Nat × List D) → Mu → Prop} {E : Exn → Mu → Prop} : Rn (iSeq f sl) μ Q E ↔ Rn (f sl) μ (fun d μ1 => ∃ p, itemsD μ1 d = some p ∧ Q p μ1) E := by
  unfold iSeq; simp only [rn_bind, rn_look]
theorem rn_ien {c : Int} {f : Sl → Cm D} {Q : List D × List (Nat × List D) → Mu → Prop} {E : Exn → Mu → Prop} : Rn (iEn c f sl) μ Q E ↔ Rn (f sl) μ (fun d μ1 => ∃ p, itemsD μ1 d = some p ∧ Q (enumD c p.1, p.2) μ1) E := by
  unfold iEn
  rw [rn_bind]
  have k : ∀ (d : D) (μ1 : Mu), Rn (Cm.look fun μ => (itemsD μ d).map fun p => (enumD c p.1, p.2)) μ1 Q E ↔ ∃ p, itemsD μ1 d = some p ∧ Q (enumD c p.1, p.2) μ1 := fun d μ1 => by
    rw [rn_look]
    cases itemsD μ1 d with
    | none => exact ⟨fun ⟨a, e, _⟩ => (by cases e), fun ⟨a, e, _⟩ => by cases e⟩
    | some p => exact ⟨fun ⟨a, e, q⟩ => by cases e; exact ⟨p, rfl, q⟩, fun ⟨a, e, q⟩ => by cases e; exact ⟨_, rfl, q⟩⟩
  exact Rn.congr k
theorem rn_iseqV {i : Nat} {d : D} {p : List D × List (Nat × List D)} {Q : List D × List (Nat × List D) → Mu → Prop} {E : Exn → Mu → Prop} (h : sl[i]?.bind id = some d) (e : itemsD μ d = some p) : Rn (iSeq (eVar i) sl) μ Q E ↔ Q p μ := by
  rw [rn_iseq, rn_var]
  exact ⟨fun ⟨d', h1, p', h2, q⟩ => by rw [h] at h1; cases h1; rw [e] at h2; cases h2; exact q, fun q => ⟨d, h, p, e, q⟩⟩
theorem rn_ienV {c : Int} {i : Nat} {d : D} {p : List D × List (Nat × List D)} {Q : List D × List (Nat × List D) → Mu → Prop} {E : Exn → Mu → Prop} (h : sl[i]?.bind id = some d) (e : itemsD μ d = some p) : Rn (iEn c (eVar i) sl) μ Q E ↔ Q (enumD c p.1, p.2) μ := by
  rw [rn_ien, rn_var]
  exact ⟨fun ⟨d', h1, p', h2, q⟩ => by rw [h] at h1; cases h1; rw [e] at h2; cases h2; exact q, fun q => ⟨d, h, p, e, q⟩⟩
theorem rn_call {n : Nat} {den : List D → Cm D} {ds : List D} {Q : D → Mu → Prop} {E : Exn → Mu → Prop} : Rn (oCall n den ds) μ Q E ↔ ds.length = n ∧ Rn (den ds) μ Q E := by
  unfold oCall
  exact rn_guard
open Classical in
theorem rn_lc {mk : List D → Cm D} {f : Sl → Cm (List D × List (Nat × List D))} {g : Tgt} {t : Sl → Cm Bool} {e : Sl → Cm D} {vs : List Nat} {Q : D → Mu → Prop} {E : Exn → Mu → Prop} (I : List D → List (Nat × List D) → Nat → List D → Mu → Prop)
    (h : Rn (f sl) μ (fun p μ1 => Guard p.2 μ1 ∧ I p.1 p.2 0 [] μ1 ∧ (∀ i d acc μ, p.1[i]? = some d → I p.1 p.2 i acc μ → Ok (lcTurn g t e p.2 (wipeD sl vs) d acc) μ fun acc2 μ2 => I p.1 p.2 (i + 1) acc2 μ2) ∧ ∀ acc μ, I p.1 p.2 p.1.length acc μ → Rn (mk acc) μ Q E) E) : Rn (eLc mk f g t e vs sl) μ Q E := by
  unfold eLc
  rw [rn_bind]
  refine h.imp (fun p μ1 ⟨hg, h0, hs, he⟩ => ?_) (fun _ _ h => h)
  have : Ok (lcLoop g t e p.2 (wipeD sl vs) p.1 []) μ1 fun acc μ2 => I p.1 p.2 p.1.length acc μ2 := ok_lcLoop (I p.1 p.2) p.1 0 [] μ1 h0 (fun i d acc μ e' h' => by rw [Nat.zero_add] at h' ⊢; exact hs i d acc μ e' h') (fun acc μ h' => by rw [Nat.zero_add] at h'; exact h')
  obtain ⟨a, μ2, e2, q⟩ := this
  have q2 := he a μ2 q
  have e3 : ∀ c : Cm D, Rn (fun μ => if Guard p.2 μ then c μ else none) μ1 Q E ↔ Rn c μ1 Q E := fun c => by
    unfold Rn
    simp only [if_pos hg]
  refine (e3 _).mpr ?_
  rw [rn_bind]
  unfold Rn at q2 ⊢
  rw [e2]
  exact q2
theorem ok_turnR {g : Tgt} {t : Sl → Cm Bool} {e : Sl → Cm D} {gs : List (Nat × List D)} {sl0 : Sl} {d : D} {acc : List D} {Q : List D → Mu → Prop} {sl1 : Sl} (eg : g.go d sl0 = some sl1)
    (h : Rn (t sl1) μ (fun b μ1 => if b = true then Rn (e sl1) μ1 (fun y μ2 => (Guard gs μ2 ∧ acc.length < sizeLine) ∧ Q (acc ++ [y]) μ2) (fun _ _ => False) else Guard gs μ1 ∧ Q acc μ1) (fun _ _ => False)) : Ok (lcTurn g t e gs sl0 d acc) μ Q := by
  refine ok_turn eg ?_
  refine (rn_ok_of h).imp fun b μ1 h => ?_
  by_cases hb : b = true
  · rw [if_pos hb] at h ⊢; exact rn_ok_of h
  · rw [if_neg hb] at h ⊢; exact h
theorem rn_tYes {Q : Bool → Mu → Prop} {E : Exn → Mu → Prop} : Rn (tYesD sl) μ Q E ↔ Q true μ := Iff.rfl
end
end DL
namespace TX
open PySem PySem.Spec L2 DL
/-! ## texts, run -/
section
variable {μ : Mu} {Q : D → Mu → Prop} {E : Exn → Mu → Prop} {sl : Sl}
theorem tgt1 {i : Nat} {d : D} : (dgName i).go d sl = some (sl.set i (some d)) := rfl
theorem tgt2 {i j : Nat} {d e : D} : (dgTup (dgCons (dgName i) (dgCons (dgName j) dgNil)) 2).go (.tup [d, e]) sl = some ((sl.set i (some d)).set j (some e)) := rfl
theorem tgt3 {i j k : Nat} {d e f : D} : (dgTup (dgCons (dgName i) (dgCons (dgName j) (dgCons (dgName k) dgNil))) 3).go (.tup [d, e, f]) sl = some (((sl.set i (some d)).set j (some e)).set k (some f)) := rfl
theorem rn_lenS {l : List Nat} : Rn (oLen [.str (S l)]) μ Q E ↔ l.length ≤ sizeLine ∧ Q (.int l.length) μ := by
  refine (rn_look (f := fun μ => (lenD μ (.str (S l))).map fun n : Nat => D.int (n : Int))).trans ?_
  have e : (lenD μ (.str (S l))).map (fun n : Nat => D.int (n : Int)) = if l.length ≤ sizeLine then some (.int l.length) else none := by
    show (if (S l).length ≤ sizeLine then some (S l).length else none).map (fun n : Nat => D.int (n : Int)) = _
    rw [S_len]
    by_cases h : l.length ≤ sizeLine
    · rw [if_pos h, if_pos h]; rfl
    · rw [if_neg h, if_neg h]; rfl
  rw [e]
  by_cases h : l.length ≤ sizeLine
  · rw [if_pos h]; exact ⟨fun ⟨a, e, q⟩ => by cases e; exact ⟨h, q⟩, fun q => ⟨_, rfl, q.2⟩⟩
  · rw [if_neg h]; exact ⟨fun ⟨a, e, q⟩ => (by cases e), fun q => absurd q.1 h⟩
theorem rn_countS {l : List Nat} {c : Nat} : Rn (oCountS (.str (S l)) [.str (S [c])]) μ Q E ↔ Q (.int (l.count c)) μ := by
  show Q (.int (Txt.count (S l) (S [c]))) μ ↔ _
  rw [count_S]
theorem rn_slHi {l : List Nat} {p : Nat} : Rn (oSl (.str (S l)) none (some (p : Int))) μ Q E ↔ l.length ≤ sizeLine ∧ Q (.str (S (l.take p))) μ := by
  have : Rn (oSl (.str (S l)) none (some (p : Int))) μ Q E ↔ (S l).length ≤ sizeLine ∧ Q (.str (cutS (S l) none (some (p : Int)))) μ := rn_guard (a := Cm.ok (D.str (cutS (S l) none (some (p : Int)))))
  rw [this, S_len, cut_hi]
theorem rn_slLo {l : List Nat} {p : Nat} : Rn (oSl (.str (S l)) (some (p : Int)) none) μ Q E ↔ l.length ≤ sizeLine ∧ Q (.str (S (l.drop p))) μ := by
  have : Rn (oSl (.str (S l)) (some (p : Int)) none) μ Q E ↔ (S l).length ≤ sizeLine ∧ Q (.str (cutS (S l) (some (p : Int)) none)) μ := rn_guard (a := Cm.ok (D.str (cutS (S l) (some (p : Int)) none)))
  rw [this, S_len, cut_lo]
theorem strip_AB {w : List Nat} (h : ∀ x ∈ w, x = 65 ∨ x = 66) : Txt.stripChars (S w) (S [65, 66]) = S [] := by
  have hc : ∀ x ∈ w, ([65, 66] : List Nat).toArray.contains x = true := fun x hx => by rcases h x hx with rfl | rfl <;> simp
  have tw : ∀ (p : Nat → Bool) (l : List Nat), (∀ x ∈ l, p x = true) → l.takeWhile p = l := fun p l => by
    induction l with
    | nil => intro _; rfl
    | cons a l ih => intro h; rw [List.takeWhile_cons, if_pos (h a (List.mem_cons_self ..)), ih fun x hx => h x (List.mem_cons_of_mem _ hx)]
  have ht := tw _ _ hc
  rw [Txt.stripChars, PySem.W.stripBy_eq]
  unfold PySem.W.stripped
  have e1 : (S w).cps.toList = w := rfl
  simp only [if_true, e1, ht, List.drop_length, List.reverse_nil, List.takeWhile_nil, List.length_nil, Nat.sub_zero, S_len]
  apply S_ext
  simp [PySem.Builtin.Str.strSub]
theorem rn_stripAB {w : List Nat} (h : ∀ x ∈ w, x = 65 ∨ x = 66) : Rn (oStrip (.str (S w)) [.str (S [65, 66])]) μ Q E ↔ w.length ≤ sizeLine ∧ Q (.str (S [])) μ := by
  have : Rn (oStrip (.str (S w)) [.str (S [65, 66])]) μ Q E ↔ (S w).length ≤ sizeLine ∧ Q (.str (Txt.stripChars (S w) (S [65, 66]))) μ := rn_guard (a := Cm.ok (D.str (Txt.stripChars (S w) (S [65, 66]))))
  rw [this, S_len, strip_AB h]
theorem rn_eqS {x y : List Nat} (hx : PyData.strOk (S x) = true) (hy : PyData.strOk (S y) = true) : Rn (oEq (.str (S x)) (.str (S y))) μ Q E ↔ Q (.bl (decide (x = y))) μ := by
  have e : (pyS μ (.str (S x))).bind (fun p => (pyS μ (.str (S y))).bind fun q => some (D.bl (PyData.eqv p q))) = some (.bl (decide (x = y))) := by
    rw [pyS_str hx, pyS_str hy]
    show some (D.bl (S x == S y)) = _
    congr 2
    by_cases h : x = y
    · subst h; simp
    · have : ¬ S x = S y := fun e => h (by have := congrArg (fun z : Str => z.cps.toList) e; simpa using this)
      rw [decide_eq_false h]
      exact beq_eq_false_iff_ne.mpr this
  exact rn_look.trans ⟨fun ⟨a, h, q⟩ => by rw [e] at h; cases h; exact q, fun q => ⟨_, e, q⟩⟩
theorem rn_neS {x y : List Nat} (hx : PyData.strOk (S x) = true) (hy : PyData.strOk (S y) = true) : Rn (oNe (.str (S x)) (.str (S y))) μ Q E ↔ Q (.bl (!decide (x = y))) μ := by
  have e : (pyS μ (.str (S x))).bind (fun p => (pyS μ (.str (S y))).bind fun q => some (D.bl (!PyData.eqv p q))) = some (.bl (!decide (x = y))) := by
    rw [pyS_str hx, pyS_str hy]
    show some (D.bl (!(S x == S y))) = _
    congr 3
    by_cases h : x = y
    · subst h; simp
    · have : ¬ S x = S y := fun e => h (by have := congrArg (fun z : Str => z.cps.toList) e; simpa using this)
      rw [decide_eq_false h]
      exact beq_eq_false_iff_ne.mpr this
  exact rn_look.trans ⟨fun ⟨a, h, q⟩ => by rw [e] at h; cases h; exact q, fun q => ⟨_, e, q⟩⟩
theorem strOk_AB {w : List Nat} (h : ∀ x ∈ w, x = 65 ∨ x = 66) : PyData.strOk (S w) = true := by
  unfold PyData.strOk
  simp only [Array.all_eq_true']
  intro x hx
  have hx : x ∈ w := by simpa using hx
  rcases h x hx with rfl | rfl <;> decide
/-- a call that gives d and leaves all as it is -/
def Gives (den : List D → Cm D) (ds : List D) (d : D) : Prop := ∀ μ, Ok (den ds) μ fun r μ1 => r = d ∧ μ1 = μ
def plainD (d : D) : Prop := ∀ n, d.bel n
theorem gives_rt {m : Nat} {g : Sl → CS} {ds : List D} {d : D} (hp : plainD d) (h : ∀ μ, OkS (g (st0 m ds)) μ fun r μ1 => r = .rt d ∧ μ1 = μ) : Gives (denC m g) ds d := fun μ => by
  refine denC_flat ((h μ).imp fun r μ1 ⟨e, e2⟩ => ?_)
  subst e2
  exact ⟨d, e, hp _, rfl, muLow_refl _ _, rfl, rfl⟩
theorem gives_nx {m : Nat} {g : Sl → CS} {ds : List D} (h : ∀ μ, OkS (g (st0 m ds)) μ fun r μ1 => (∃ sl, r = .nx sl) ∧ μ1 = μ) : Gives (denC m g) ds .non := fun μ => by
  refine denC_ok ((h μ).imp fun r μ1 ⟨⟨sl, e⟩, e2⟩ => ?_)
  subst e2
  subst e
  have c := cutV_self (n := μ1.length) (μ' := μ1) (d := .non) trivial
  refine ⟨muLow_refl _ _, .non, rfl, .non, c.1, fun d2 h2 => ⟨c.2 d2 h2, List.take_length⟩⟩
/-- a living list is made and given back as data -/
theorem gives_mk {m : Nat} {g : Sl → CS} {ds xs : List D} (hp : ∀ n, belL n xs) (h : ∀ μ, OkS (g (st0 m ds)) μ fun r μ1 => (r = .rt (.lst xs) ∧ μ1.take μ.length = μ) ∨ (r = .rt (.mref μ.length) ∧ μ1[μ.length]? = some (some (.lst xs)) ∧ μ1.take μ.length = μ)) : Gives (denC m g) ds (.lst xs) := fun μ => by
  refine denC_ok ((h μ).imp fun r μ1 h => ?_)
  have low : μ1.take μ.length = μ → MuLow μ.length μ μ1 := fun e i mo hi e1 => by
    left
    rw [← e, List.getElem?_take, if_pos hi]
    exact e1
  rcases h with ⟨rfl, e⟩ | ⟨rfl, hg, e⟩
  · have c := cutV_self (n := μ.length) (μ' := μ1) (d := .lst xs) (hp _)
    exact ⟨low e, _, rfl, _, c.1, fun d2 h2 => ⟨c.2 d2 h2, e⟩⟩
  · refine ⟨low e, _, rfl, .lst xs, .inr ⟨μ.length, xs, rfl, Nat.le_refl _, hg, hp _, rfl⟩, fun d2 h2 => ⟨?_, e⟩⟩
    rcases h2 with ⟨_, h2⟩ | ⟨h', ds, e1, _, e2, _, rfl⟩
    · exact absurd h2 (Nat.lt_irrefl _)
    · cases e1
      rw [hg] at e2
      cases e2
      rfl
theorem Gives.run {den : List D → Cm D} {ds : List D} {d : D} (g : Gives den ds d) {n : Nat} {μ : Mu} {Q : D → Mu → Prop} (hl : ds.length = n) (q : Q d μ) : Ok (oCall n den ds) μ Q :=
  ok_call hl ((g μ).imp fun r μ1 ⟨e, e2⟩ => by subst e; subst e2; exact q)
theorem rn_gives {den : List D → Cm D} {ds : List D} {d : D} (g : Gives den ds d) {n : Nat} (hl : ds.length = n) : Rn (oCall n den ds) μ Q E ↔ Q d μ := by
  rw [rn_call]
  obtain ⟨r, μ1, e, rfl, rfl⟩ := g μ
  unfold Rn
  rw [e]
  exact ⟨fun q => q.2, fun q => ⟨hl, q⟩⟩
theorem rnG1 {den : List D → Cm D} {a0 d : D} (g : Gives den [a0] d) : Rn (oCall 1 den [a0]) μ Q E ↔ Q d μ := rn_gives g rfl
theorem rnG2 {den : List D → Cm D} {a0 b0 d : D} (g : Gives den [a0, b0] d) : Rn (oCall 2 den [a0, b0]) μ Q E ↔ Q d μ := rn_gives g rfl
theorem rnG3 {den : List D → Cm D} {a0 b0 c0 d : D} (g : Gives den [a0, b0, c0] d) : Rn (oCall 3 den [a0, b0, c0]) μ Q E ↔ Q d μ := rn_gives g rfl
theorem rnG4 {den : List D → Cm D} {a0 b0 c0 d0 d : D} (g : Gives den [a0, b0, c0, d0] d) : Rn (oCall 4 den [a0, b0, c0, d0]) μ Q E ↔ Q d μ := rn_gives g rfl
theorem rnG5 {den : List D → Cm D} {a0 b0 c0 d0 e0 d : D} (g : Gives den [a0, b0, c0, d0, e0] d) : Rn (oCall 5 den [a0, b0, c0, d0, e0]) μ Q E ↔ Q d μ := rn_gives g rfl
theorem rnG6 {den : List D → Cm D} {a0 b0 c0 d0 e0 f0 d : D} (g : Gives den [a0, b0, c0, d0, e0, f0] d) : Rn (oCall 6 den [a0, b0, c0, d0, e0, f0]) μ Q E ↔ Q d μ := rn_gives g rfl
theorem rnG7 {den : List D → Cm D} {a0 b0 c0 d0 e0 f0 g0 d : D} (g : Gives den [a0, b0, c0, d0, e0, f0, g0] d) : Rn (oCall 7 den [a0, b0, c0, d0, e0, f0, g0]) μ Q E ↔ Q d μ := rn_gives g rfl
end
end TX

namespace DL
open PySem PySem.Spec L2
section
variable {μ : Mu} {Q : D → Mu → Prop} {E : Exn → Mu → Prop} {sl : Sl}
theorem rn_mod_eq {α : Type} {c : Cm α} {μ : Mu} {a : α} {Q : α → Mu → Prop} {E : Exn → Mu → Prop} (h : Rn c μ (fun r μ2 => r = a ∧ μ2 = μ) fun _ _ => False) : Rn c μ Q E ↔ Q a μ := by
  unfold Rn at h ⊢
  split at h
  · exact h.elim
  · rename_i b μ1 e; obtain ⟨rfl, rfl⟩ := h; exact Iff.rfl
  · exact h.elim
/-- a comprehension that changes nothing -/
theorem rn_lcF {mk : List D → Cm D} {f : Sl → Cm (List D × List (Nat × List D))} {g : Tgt} {t : Sl → Cm Bool} {e : Sl → Cm D} {vs : List Nat} {items : List D} {gs : List (Nat × List D)} (p : D → Bool) (F : D → D)
    (hf : Rn (f sl) μ (fun q μ1 => q = (items, gs) ∧ μ1 = μ) E) (hG : Guard gs μ) (hl : items.length ≤ sizeLine)
    (hs : ∀ d ∈ items, ∃ sl1, g.go d (wipeD sl vs) = some sl1 ∧ Rn (t sl1) μ (fun b μ2 => b = p d ∧ μ2 = μ) (fun _ _ => False) ∧ (p d = true → Rn (e sl1) μ (fun r μ2 => r = F d ∧ μ2 = μ) (fun _ _ => False)))
    (h : Rn (mk ((items.filter p).map F)) μ Q E) : Rn (eLc mk f g t e vs sl) μ Q E := by
  refine rn_lc (fun items' gs' k acc μk => items' = items ∧ gs' = gs ∧ acc = ((items.take k).filter p).map F ∧ μk = μ) (hf.imp (fun q μ1 ⟨e1, e2⟩ => ?_) fun _ _ h => h)
  subst e1 e2
  refine ⟨hG, ⟨rfl, rfl, rfl, rfl⟩, ?_, ?_⟩
  · rintro i d acc μ2 hd ⟨_, _, rfl, rfl⟩
    have hd : items[i]? = some d := hd
    obtain ⟨sl1, eg, h1, h2⟩ := hs d (List.mem_of_getElem? hd)
    refine ok_turnR eg ?_
    rw [rn_mod_eq h1]
    have ht : items.take (i + 1) = items.take i ++ [d] := by rw [List.take_succ, hd]; rfl
    by_cases hp : p d = true
    · rw [if_pos hp, rn_mod_eq (h2 hp)]
      refine ⟨⟨hG, ?_⟩, rfl, rfl, ?_, rfl⟩
      · rw [List.length_map]
        have h3 := List.length_filter_le p (items.take i)
        have h4 := (List.getElem?_eq_some_iff.mp hd).1
        rw [List.length_take] at h3
        omega
      · rw [ht, List.filter_append, List.map_append, List.filter_cons, if_pos hp]; rfl
    · rw [if_neg hp]
      refine ⟨hG, rfl, rfl, ?_, rfl⟩
      rw [ht, List.filter_append, List.map_append, List.filter_cons, if_neg hp]; simp
  · rintro acc μ2 ⟨_, _, rfl, rfl⟩
    have : (items.take (items, gs).1.length) = items := List.take_length
    rw [this]
    exact h
theorem rn_lcM {mk : List D → Cm D} {f : Sl → Cm (List D × List (Nat × List D))} {g : Tgt} {e : Sl → Cm D} {vs : List Nat} {items : List D} {gs : List (Nat × List D)} (F : D → D)
    (hf : Rn (f sl) μ (fun q μ1 => q = (items, gs) ∧ μ1 = μ) E) (hG : Guard gs μ) (hl : items.length ≤ sizeLine)
    (hs : ∀ d ∈ items, ∃ sl1, g.go d (wipeD sl vs) = some sl1 ∧ Rn (e sl1) μ (fun r μ2 => r = F d ∧ μ2 = μ) (fun _ _ => False))
    (h : Rn (mk (items.map F)) μ Q E) : Rn (eLc mk f g tYesD e vs sl) μ Q E :=
  rn_lcF (fun _ => true) F hf hG hl (fun d hd => let ⟨sl1, h1, h2⟩ := hs d hd; ⟨sl1, h1, ⟨rfl, rfl⟩, fun _ => h2⟩) (by
    have : items.filter (fun _ => true) = items := List.filter_eq_self.mpr fun _ _ => rfl
    rw [this]; exact h)
theorem rn_dk {tbl : List (Str × Str)} {f : Sl → Cm D} : Rn (eDK tbl f sl) μ Q E ↔ Rn (f sl) μ (fun d μ1 => ∃ z u, d = .str z ∧ tbl.lookup z = some u ∧ Q (.str u) μ1) E := by
  unfold eDK
  rw [rn_bind]
  have k : ∀ (d : D) (μ1 : Mu), Rn (match d with | .str z => Cm.lift ((tbl.lookup z).map .str) | _ => Cm.fail) μ1 Q E ↔ ∃ z u, d = .str z ∧ tbl.lookup z = some u ∧ Q (.str u) μ1 := fun d μ1 => by
    cases d with
    | str z =>
      refine rn_lift.trans ?_
      cases e : tbl.lookup z with
      | none => exact ⟨fun ⟨a, h, _⟩ => (by cases h), fun ⟨z', u, h, h2, _⟩ => by cases h; rw [e] at h2; cases h2⟩
      | some u => exact ⟨fun ⟨a, h, q⟩ => by cases h; exact ⟨z, u, rfl, e, q⟩, fun ⟨z', u', h, h2, q⟩ => by cases h; rw [e] at h2; cases h2; exact ⟨_, rfl, q⟩⟩
    | _ => exact rn_fail.trans ⟨fun q => q.elim, fun ⟨z, u, h, _⟩ => by cases h⟩
  exact Rn.congr k
theorem rn_fld {c f : Str} {h : Nat} : Rn (oFld c f (.mref h)) μ Q E ↔ ∃ fs, μ[h]? = some (some (.ins c fs)) ∧ ∃ d, fs.lookup f = some d ∧ Q d μ := by
  have e : ∀ μ, Rn (oFld c f (.mref h)) μ Q E ↔ ∃ d, (insD c μ (.mref h)).bind (fun fs => fs.lookup f) = some d ∧ Q d μ := fun μ => rn_look
  rw [e]
  constructor
  · rintro ⟨d, h1, q⟩
    cases e1 : insD c μ (.mref h) with
    | none => rw [e1] at h1; cases h1
    | some fs =>
      rw [e1] at h1
      obtain ⟨h', e2, e3⟩ := insD_at e1
      cases e2
      exact ⟨fs, e3, d, h1, q⟩
  · rintro ⟨fs, h1, d, h2, q⟩
    exact ⟨d, by rw [insD_of h1]; exact h2, q⟩
theorem rn_setFld {c f : Str} {h : Nat} {v : D} : Rn (oSetFld c f (.mref h) v) μ Q E ↔ ∃ fs, μ[h]? = some (some (.ins c fs)) ∧ fs.length < 999 ∧ Q .non (μ.set h (some (.ins c (putD f v fs)))) := by
  constructor
  · intro q
    unfold Rn at q
    cases e : oSetFld c f (.mref h) v μ with
    | none => rw [e] at q; exact q.elim
    | some p =>
      obtain ⟨r, μ'⟩ := p
      obtain ⟨h', fs, e1, e2, hl, rfl, rfl⟩ := oSetFld_inv e
      cases e1
      obtain ⟨h', e3, e4⟩ := insD_at e2
      cases e3
      rw [e] at q
      exact ⟨fs, e4, hl, q⟩
  · rintro ⟨fs, h1, h2, q⟩
    unfold Rn oSetFld
    simp only [insD_of h1, if_pos h2]
    exact q
theorem rn_meth {c m : Str} {n : Nat} {den : List D → Cm D} {fo : Sl → Cm D} {fs : Sl → Cm (List D)} : Rn (eMeth c m n den fo fs sl) μ Q E ↔ Rn (fo sl) μ (fun x μ1 => ckI c m μ1 x = true ∧ Rn (fs sl) μ1 (fun ds μ2 => Rn (oCall n den (x :: ds)) μ2 Q E) E) E := by
  unfold eMeth
  simp only [rn_bind, rn_look]
  have k : ∀ (x : D) (μ1 : Mu), (∃ a, (if ckI c m μ1 x = true then some x else none) = some a ∧ Rn (fs sl) μ1 (fun ds μ2 => Rn (oCall n den (a :: ds)) μ2 Q E) E) ↔ (ckI c m μ1 x = true ∧ Rn (fs sl) μ1 (fun ds μ2 => Rn (oCall n den (x :: ds)) μ2 Q E) E) := fun x μ1 => by
    by_cases h : ckI c m μ1 x = true
    · rw [if_pos h]
      exact ⟨fun ⟨a, e, q⟩ => by cases e; exact ⟨h, q⟩, fun q => ⟨x, rfl, q.2⟩⟩
    · rw [if_neg h]
      exact ⟨fun ⟨a, e, q⟩ => (by cases e), fun q => absurd q.1 h⟩
  exact Rn.congr k
theorem ck_I {c m : Str} {h : Nat} : (ckI c m μ (.mref h) = true) ↔ ∃ fs, μ[h]? = some (some (.ins c fs)) ∧ fs.lookup m = none := by
  unfold ckI
  cases e : insD c μ (.mref h) with
  | none => exact ⟨(fun h => by cases h), fun ⟨fs, h1, _⟩ => by rw [insD_of h1] at e; cases e⟩
  | some fs =>
    obtain ⟨h', e2, e3⟩ := insD_at e
    cases e2
    refine ⟨fun h1 => ⟨fs, e3, by simpa using h1⟩, fun ⟨fs', h1, h2⟩ => ?_⟩
    rw [e3] at h1
    cases h1
    simpa using h2
theorem rn_make {c : Str} {n : Nat} {den : List D → Cm D} {ds : List D} (hl : ds.length + 1 = n) (h : Ok (den (.mref μ.length :: ds)) (μ ++ [some (.ins c [])]) fun d μ' => d = .non ∧ Q (.mref μ.length) μ') : Rn (oMake c n den ds) μ Q E := by
  obtain ⟨d, μ', e, rfl, q⟩ := h
  unfold Rn oMake oCall
  rw [if_pos (show (D.mref μ.length :: ds).length = n from hl), e]
  exact q
theorem denC_nx {m : Nat} {g : Sl → CS} {ds : List D} {Q : D → Mu → Prop} (h : OkS (g (st0 m ds)) μ fun r μ1 => (∃ sl, r = .nx sl) ∧ μ1.length = μ.length ∧ MuLow μ.length μ μ1 ∧ Q .non μ1) : Ok (denC m g ds) μ Q := by
  refine denC_ok (h.imp fun r μ1 ⟨⟨sl, e⟩, hl, hlow, q⟩ => ?_)
  subst e
  have c := cutV_self (n := μ.length) (μ' := μ1) (d := .non) trivial
  refine ⟨hlow, .non, rfl, .non, c.1, fun d2 h2 => ?_⟩
  rw [c.2 d2 h2, ← hl, List.take_length]
  exact q
theorem muLow_setO {n : Nat} {h : Nat} {mo : MO} (b : mo.bel n) : MuLow n μ (μ.set h (some mo)) := fun i mo' hi e => by
  by_cases hh : h = i
  · subst hh
    by_cases hl : h < μ.length
    · rw [List.getElem?_set_self hl] at e; cases e; exact .inr b
    · rw [List.getElem?_eq_none (by rw [List.length_set]; omega)] at e; cases e
  · rw [List.getElem?_set_ne hh] at e; exact .inl e
end
section
variable {μ : Mu} {Q : SR → Mu → Prop} {sl : Sl}
theorem oks_setFld_iff {c f : Str} {fe fo : Sl → Cm D} : OkS (sSetFld c f fe fo sl) μ Q ↔ Rn (fe sl) μ (fun v μ1 => Rn (fo sl) μ1 (fun o μ2 => Rn (oSetFld c f o v) μ2 (fun _ μ4 => Q (.nx sl) μ4) (fun x μ1 => Q (.ex x sl) μ1)) (fun x μ1 => Q (.ex x sl) μ1)) (fun x μ1 => Q (.ex x sl) μ1) := by
  unfold sSetFld; simp only [oks_exp_iff, oks_nx, rn_bind]
theorem oks_augFld_iff {c f : Str} {g : Int → Int → Int} {fe fo : Sl → Cm D} : OkS (sAugFld c f g fo fe sl) μ Q ↔ Rn (fo sl) μ (fun o μ1 => Rn (oFld c f o) μ1 (fun x μ2 => Rn (fe sl) μ2 (fun y μ3 => Rn (oI2 (fun _ _ => True) (fun a b => .int (g a b)) x y) μ3 (fun z μ4 => Rn (oSetFld c f o z) μ4 (fun _ μ5 => Q (.nx sl) μ5) (fun x μ1 => Q (.ex x sl) μ1)) (fun x μ1 => Q (.ex x sl) μ1)) (fun x μ1 => Q (.ex x sl) μ1)) (fun x μ1 => Q (.ex x sl) μ1)) (fun x μ1 => Q (.ex x sl) μ1) := by
  unfold sAugFld; simp only [oks_exp_iff, oks_nx, rn_bind]
theorem oks_par_iff {i j : Nat} {fs : Sl → Cm (List D)} : OkS (sPar i j fs sl) μ Q ↔ Rn (fs sl) μ (fun ds μ1 => ∃ d e, ds = [d, e] ∧ Q (.nx ((sl.set i (some d)).set j (some e))) μ1) (fun x μ1 => Q (.ex x sl) μ1) := by
  unfold sPar
  rw [oks_exp_iff]
  have k : ∀ (ds : List D) (μ1 : Mu), OkS (match ds with | [d, e] => sNx ((sl.set i (some d)).set j (some e)) | _ => fun _ => none) μ1 Q ↔ ∃ d e, ds = [d, e] ∧ Q (.nx ((sl.set i (some d)).set j (some e))) μ1 := fun ds μ1 => by
    match ds with
    | [d, e] => exact oks_nx.trans ⟨fun q => ⟨d, e, rfl, q⟩, fun ⟨d', e', h, q⟩ => by cases h; exact q⟩
    | [] => exact ⟨fun ⟨_, _, h, _⟩ => (by cases h), fun ⟨d, e, h, _⟩ => by cases h⟩
    | [_] => exact ⟨fun ⟨_, _, h, _⟩ => (by cases h), fun ⟨d, e, h, _⟩ => by cases h⟩
    | _ :: _ :: _ :: _ => exact ⟨fun ⟨_, _, h, _⟩ => (by cases h), fun ⟨d, e, h, _⟩ => by cases h⟩
  exact Rn.congr k
theorem oks_par_two {i j : Nat} {f g : Sl → Cm D} : OkS (sPar i j (aCons f (aCons g aNil)) sl) μ Q ↔ Rn (f sl) μ (fun d μ1 => Rn (g sl) μ1 (fun e μ2 => Q (.nx ((sl.set i (some d)).set j (some e))) μ2) (fun x μ1 => Q (.ex x sl) μ1)) (fun x μ1 => Q (.ex x sl) μ1) := by
  rw [oks_par_iff]
  simp only [rn_cons, rn_nil]
  refine Rn.congr fun d μ1 => Rn.congr fun e μ2 => ⟨fun ⟨d', e', h, q⟩ => by cases h; exact q, fun q => ⟨d, e, rfl, q⟩⟩
end
end DL
namespace TX
open PySem PySem.Spec L2 DL
section
variable {μ : Mu} {Q : D → Mu → Prop} {E : Exn → Mu → Prop} {sl : Sl}
theorem rn_joinS {ys : List (List Nat)} (h : ys.flatten.length ≤ 16777216) : Rn (oJoin (.str (S [])) [.lst (ys.map fun y => D.str (S y))]) μ Q E ↔ Q (.str (S ys.flatten)) μ := by
  have e : (dLT μ (.lst (ys.map fun y => D.str (S y)))).bind (fun xs => (strsD xs).bind fun ys => if (ys.map (·.length)).sum + ys.length * (S []).length ≤ 16777216 then some (D.str (Txt.join (S []) ys)) else none) = some (.str (S ys.flatten)) := by
    show (strsD (ys.map fun y => D.str (S y))).bind _ = _
    rw [strs_S, Option.bind_some, lens_S, S_len, List.length_nil, Nat.mul_zero, Nat.add_zero, if_pos h, join_S]
  exact rn_look.trans ⟨fun ⟨a, h, q⟩ => by rw [e] at h; cases h; exact q, fun q => ⟨_, e, q⟩⟩
theorem rev_S (l : List Nat) : revS (S l) = S l.reverse := rfl
theorem rn_revS {l : List Nat} : Rn (oRev (.str (S l))) μ Q E ↔ l.length ≤ sizeLine ∧ Q (.str (S l.reverse)) μ := by
  have : Rn (oRev (.str (S l))) μ Q E ↔ (S l).length ≤ sizeLine ∧ Q (.str (revS (S l))) μ := rn_guard (a := Cm.ok (D.str (revS (S l))))
  rw [this, S_len]
  rfl
theorem rn_revL {xs : List D} : Rn (oRev (.lst xs)) μ Q E ↔ Q (.lst xs.reverse) μ := Iff.rfl
theorem rn_mulS {w : List Nat} {n : Int} : Rn (oMul (.str (S w)) (.int n)) μ Q E ↔ (0 ≤ n ∧ n ≤ 16777216 ∧ w.length * n.toNat ≤ 16777216) ∧ Q (.str (S (rep n.toNat w))) μ := by
  have : Rn (oMul (.str (S w)) (.int n)) μ Q E ↔ (0 ≤ n ∧ n ≤ 16777216 ∧ (S w).length * n.toNat ≤ 16777216) ∧ Q (.str (Txt.mul (S w) n)) μ := rn_guard (p := 0 ≤ n ∧ n ≤ 16777216 ∧ (S w).length * n.toNat ≤ 16777216) (a := Cm.ok (D.str (Txt.mul (S w) n)))
  rw [this, S_len, mul_S]
theorem rn_addS {a b : List Nat} : Rn (oAdd (.str (S a)) (.str (S b))) μ Q E ↔ a.length + b.length ≤ sizeLine ∧ Q (.str (S (a ++ b))) μ := by
  have : Rn (oAdd (.str (S a)) (.str (S b))) μ Q E ↔ (S a).length + (S b).length ≤ sizeLine ∧ Q (.str (S a ++ S b)) μ := rn_guard (p := (S a).length + (S b).length ≤ sizeLine) (a := Cm.ok (D.str (S a ++ S b)))
  rw [this, S_len, S_len, S_app]
theorem rn_ixS {l : List Nat} {i : Int} : Rn (oIx (.str (S l)) (.int i)) μ Q E ↔ l.length ≤ sizeLine ∧ ∃ c, atI l i = some c ∧ Q (.str (S [c])) μ := by
  have : Rn (oIx (.str (S l)) (.int i)) μ Q E ↔ (S l).length ≤ sizeLine ∧ Rn (Cm.lift ((atI (S l).cps.toList i).map fun c => D.str ⟨#[c]⟩)) μ Q E := rn_guard (p := (S l).length ≤ sizeLine)
  rw [this, S_len, rn_lift]
  have e0 : (S l).cps.toList = l := rfl
  rw [e0]
  refine and_congr_right fun _ => ?_
  cases e : atI l i with
  | none => exact ⟨fun ⟨a, h, _⟩ => (by cases h), fun ⟨c, h, _⟩ => by cases h⟩
  | some c => exact ⟨fun ⟨a, h, q⟩ => by cases h; exact ⟨c, rfl, q⟩, fun ⟨c', h, q⟩ => by cases h; exact ⟨_, rfl, q⟩⟩
end
end TX

namespace TX
/-! ## words that go round (pure) -/
/-- n letters of s, over and over -/
def cyc (s : List Nat) (n : Nat) : List Nat := (List.range n).map fun i => s.getD (i % s.length) 0
theorem cyc_len (s : List Nat) (n : Nat) : (cyc s n).length = n := by simp [cyc]
theorem cyc_get {s : List Nat} {n i : Nat} (h : i < n) : (cyc s n)[i]? = some (s.getD (i % s.length) 0) := by
  unfold cyc
  rw [List.getElem?_map, List.getElem?_range h]; rfl
theorem cyc_zero (s : List Nat) : cyc s 0 = [] := rfl
theorem rep_get {w : List Nat} (hw : 0 < w.length) : ∀ (m i : Nat), i < w.length * m → (rep m w)[i]? = some (w.getD (i % w.length) 0)
  | 0, i, h => by simp at h
  | m + 1, i, h => by
    rw [rep_succ]
    by_cases hi : i < w.length
    · rw [List.getElem?_append_left hi, Nat.mod_eq_of_lt hi]
      simp [List.getD, List.getElem?_eq_getElem hi]
    · rw [List.getElem?_append_right (Nat.le_of_not_lt hi), rep_get hw m _ (by rw [Nat.mul_succ] at h; omega)]
      rw [show i % w.length = (i - w.length) % w.length from Nat.mod_eq_sub_mod (Nat.le_of_not_lt hi)]
theorem cyc_rep {w : List Nat} (hw : 0 < w.length) (m : Nat) : cyc w (w.length * m) = rep m w := by
  apply List.ext_getElem?
  intro i
  by_cases h : i < w.length * m
  · rw [cyc_get h, rep_get hw m i h]
  · rw [List.getElem?_eq_none (by rw [cyc_len]; omega), List.getElem?_eq_none (by rw [rep_len]; omega)]
theorem cyc_take (s : List Nat) {k n : Nat} (h : k ≤ n) : (cyc s n).take k = cyc s k := by
  apply List.ext_getElem?
  intro i
  by_cases hi : i < k
  · rw [List.getElem?_take, if_pos hi, cyc_get (by omega), cyc_get hi]
  · rw [List.getElem?_eq_none (by rw [List.length_take, cyc_len]; omega), List.getElem?_eq_none (by rw [cyc_len]; omega)]
/-- the word from its j-th letter on -/
def rot (s : List Nat) (j : Nat) : List Nat := s.drop j ++ s.take j
theorem rot_len (s : List Nat) (j : Nat) : (rot s j).length = s.length := by
  unfold rot
  rw [List.length_append, List.length_drop, List.length_take]; omega
theorem rot_get {s : List Nat} {j i : Nat} (hj : j < s.length) (hi : i < s.length) : (rot s j).getD i 0 = s.getD ((j + i) % s.length) 0 := by
  unfold rot List.getD
  by_cases h : i < s.length - j
  · rw [List.getElem?_append_left (by rw [List.length_drop]; exact h), List.getElem?_drop, Nat.mod_eq_of_lt (by omega)]
  · rw [List.getElem?_append_right (by rw [List.length_drop]; omega), List.length_drop, List.getElem?_take, if_pos (by omega)]
    have : (j + i) % s.length = i - (s.length - j) := by
      rw [Nat.mod_eq_sub_mod (by omega), Nat.mod_eq_of_lt (by omega)]; omega
    rw [this]
theorem cyc_drop {s : List Nat} (hs : 0 < s.length) {k n : Nat} (h : k ≤ n) : (cyc s n).drop k = cyc (rot s (k % s.length)) (n - k) := by
  apply List.ext_getElem?
  intro i
  by_cases hi : i < n - k
  · rw [List.getElem?_drop, cyc_get (by omega), cyc_get hi, rot_len, rot_get (Nat.mod_lt _ hs) (Nat.mod_lt _ hs), ← Nat.add_mod]
  · rw [List.getElem?_eq_none (by rw [List.length_drop, cyc_len]; omega), List.getElem?_eq_none (by rw [cyc_len]; omega)]
/-- Fine and Wilf -/
theorem fine_wilf {s u : List Nat} (hs : 0 < s.length) (hu : 0 < u.length) (h : cyc s (s.length + u.length) = cyc u (s.length + u.length)) (n : Nat) : cyc s n = cyc u n := by
  have key : ∀ i, s.getD (i % s.length) 0 = u.getD (i % u.length) 0 := by
    intro i
    induction i using Nat.strongRecOn with
    | ind i ih =>
      by_cases hi : i < s.length + u.length
      · have := congrArg (·[i]?) h
        simp only [cyc_get hi, Option.some.injEq] at this
        exact this
      · have e1 : i % s.length = (i - s.length) % s.length := Nat.mod_eq_sub_mod (by omega)
        have e2 : i % u.length = (i - u.length) % u.length := Nat.mod_eq_sub_mod (by omega)
        have h1 := ih (i - s.length) (by omega)
        have h2 := ih (i - u.length) (by omega)
        have h3 := ih (i - s.length - u.length) (by omega)
        have e3 : (i - s.length) % u.length = (i - s.length - u.length) % u.length := Nat.mod_eq_sub_mod (by omega)
        have e4 : (i - u.length) % s.length = (i - s.length - u.length) % s.length := by
          rw [Nat.mod_eq_sub_mod (by omega : s.length ≤ i - u.length), Nat.sub_right_comm]
        rw [e1, h1, e3, ← h3, ← e4, h2, ← e2]
  unfold cyc
  exact List.map_congr_left fun i _ => key i
/-- the first place where two lists of one length part -/
def ne1 : List Nat → List Nat → Option Nat
  | a :: l, b :: m => if a = b then (ne1 l m).map (· + 1) else some 0
  | _, _ => none
theorem ne1_self : ∀ l : List Nat, ne1 l l = none
  | [] => rfl
  | a :: l => by unfold ne1; rw [if_pos rfl, ne1_self l]; rfl
theorem ne1_none : ∀ {l m : List Nat}, l.length = m.length → ne1 l m = none → l = m
  | [], [], _, _ => rfl
  | a :: l, b :: m, hl, h => by
    unfold ne1 at h
    by_cases e : a = b
    · rw [if_pos e] at h
      have : ne1 l m = none := by
        cases q : ne1 l m with
        | none => rfl
        | some i => rw [q] at h; cases h
      rw [e, ne1_none (by simpa using hl) this]
    · rw [if_neg e] at h; cases h
theorem ne1_take : ∀ {l m : List Nat} {k i : Nat}, ne1 (l.take k) (m.take k) = some i → ne1 l m = some i
  | _, _, 0, i, h => by simp [ne1] at h
  | [], m, k + 1, i, h => by simp [ne1] at h
  | a :: l, [], k + 1, i, h => by simp [ne1] at h
  | a :: l, b :: m, k + 1, i, h => by
    simp only [List.take_succ_cons] at h
    unfold ne1 at h ⊢
    by_cases e : a = b
    · rw [if_pos e] at h ⊢
      cases q : ne1 (l.take k) (m.take k) with
      | none => rw [q] at h; cases h
      | some j => rw [q] at h; rw [ne1_take q]; exact h
    · rw [if_neg e] at h ⊢; exact h
theorem ne1_lt : ∀ {l m : List Nat} {i : Nat}, ne1 l m = some i → i < l.length
  | [], _, _, h => by simp [ne1] at h
  | a :: l, [], _, h => by simp [ne1] at h
  | a :: l, b :: m, i, h => by
    unfold ne1 at h
    by_cases e : a = b
    · rw [if_pos e] at h
      cases q : ne1 l m with
      | none => rw [q] at h; cases h
      | some j => rw [q] at h; cases h; have := ne1_lt q; simp; omega
    · rw [if_neg e] at h; cases h; simp
/-- the number, from 1, of the first place that two lists do not have in common -/
def fd : List Nat → List Nat → Option Nat
  | [], [] => none
  | [], _ :: _ => some 1
  | _ :: _, [] => some 1
  | a :: l, b :: m => if a = b then (fd l m).map (· + 1) else some 1
theorem fd_self : ∀ l : List Nat, fd l l = none
  | [] => rfl
  | a :: l => by unfold fd; rw [if_pos rfl, fd_self l]; rfl
theorem fd_none : ∀ {l m : List Nat}, fd l m = none → l = m
  | [], [], _ => rfl
  | [], _ :: _, h => by cases h
  | _ :: _, [], h => by cases h
  | a :: l, b :: m, h => by
    unfold fd at h
    by_cases e : a = b
    · rw [if_pos e] at h
      have : fd l m = none := by
        cases q : fd l m with
        | none => rfl
        | some i => rw [q] at h; cases h
      rw [e, fd_none this]
    · rw [if_neg e] at h; cases h
theorem fd_comm : ∀ l m : List Nat, fd l m = fd m l
  | [], [] => rfl
  | [], _ :: _ => rfl
  | _ :: _, [] => rfl
  | a :: l, b :: m => by
    unfold fd
    by_cases e : a = b
    · rw [if_pos e, if_pos e.symm, fd_comm l m]
    · rw [if_neg e, if_neg (fun h => e h.symm)]
theorem fd_app : ∀ (p l m : List Nat), fd (p ++ l) (p ++ m) = (fd l m).map (· + p.length)
  | [], l, m => by
    show fd l m = (fd l m).map (· + 0)
    cases fd l m <;> rfl
  | a :: p, l, m => by
    show (if a = a then (fd (p ++ l) (p ++ m)).map (· + 1) else some 1) = _
    rw [if_pos rfl, fd_app p l m, Option.map_map]
    cases fd l m with
    | none => rfl
    | some i => simp; omega
theorem fd_ne1 : ∀ {x y l m : List Nat} {i : Nat}, x.length = y.length → ne1 x y = some i → fd (x ++ l) (y ++ m) = some (i + 1)
  | [], _, _, _, _, _, h => by simp [ne1] at h
  | a :: x, [], _, _, _, _, h => by simp [ne1] at h
  | a :: x, b :: y, l, m, i, hl, h => by
    unfold ne1 at h
    show (if a = b then (fd (x ++ l) (y ++ m)).map (· + 1) else some 1) = _
    by_cases e : a = b
    · rw [if_pos e] at h ⊢
      cases q : ne1 x y with
      | none => rw [q] at h; cases h
      | some j =>
        rw [q] at h
        cases h
        rw [fd_ne1 (by simpa using hl) q]; rfl
    · rw [if_neg e] at h ⊢
      cases h; rfl
theorem fd_nil_l {m : List Nat} (h : m ≠ []) : fd [] m = some 1 := by cases m with | nil => exact absurd rfl h | cons a m => rfl
theorem fd_nil_r {m : List Nat} (h : m ≠ []) : fd m [] = some 1 := by cases m with | nil => exact absurd rfl h | cons a m => rfl
theorem fd_pre (l : List Nat) {m : List Nat} (h : m ≠ []) : fd (l ++ m) l = some (l.length + 1) := by
  have := fd_app l m []
  rw [List.append_nil, fd_nil_r h] at this
  rw [this]; simp; omega
end TX

namespace DL
open PySem PySem.Spec L2
/-! ## == of plain data -/
mutual
/-- None, ints, texts, lists and tuples of such, nested to n -/
def D.nice : Nat → D → Prop
  | _, .non => True
  | _, .int _ => True
  | _, .str s => PyData.strOk s = true
  | n, .lst xs => 0 < n ∧ niceL (n - 1) xs
  | n, .tup xs => 0 < n ∧ niceL (n - 1) xs
  | _, .bl _ => False
  | _, .mref _ => False
  | _, .dic _ _ => False
  | _, .wtup _ => False
def niceL : Nat → List D → Prop
  | _, [] => True
  | n, x :: xs => D.nice n x ∧ niceL n xs
end
theorem niceL_iff {n : Nat} : ∀ {xs : List D}, niceL n xs ↔ ∀ x ∈ xs, D.nice n x
  | [] => by simp [niceL]
  | x :: xs => by simp [niceL, niceL_iff (xs := xs)]
mutual
theorem nice_py : ∀ (n : Nat) (d : D), d.nice n → ∃ p, pyC d = some p ∧ p.canLay0 = true ∧ p.depth ≤ n
  | n, .non, _ => ⟨.none, by rw [pyC], by simp [PyData.canLay0], by simp [PyData.depth]⟩
  | n, .int i, _ => ⟨.int i, by rw [pyC], by simp [PyData.canLay0], by simp [PyData.depth]⟩
  | n, .str s, h => ⟨.str s, by rw [pyC], by simp only [PyData.canLay0]; exact h, by simp [PyData.depth]⟩
  | n, .lst xs, h => by
    obtain ⟨h0, h1⟩ : 0 < n ∧ niceL (n - 1) xs := by simpa [D.nice] using h
    obtain ⟨ps, e, c, d⟩ := niceL_py (n - 1) xs h1
    exact ⟨.list ps, by rw [pyC, e]; rfl, by simp only [PyData.canLay0]; exact c, by simp only [PyData.depth]; omega⟩
  | n, .tup xs, h => by
    obtain ⟨h0, h1⟩ : 0 < n ∧ niceL (n - 1) xs := by simpa [D.nice] using h
    obtain ⟨ps, e, c, d⟩ := niceL_py (n - 1) xs h1
    exact ⟨.tuple ps, by rw [pyC, e]; rfl, by simp only [PyData.canLay0]; exact c, by simp only [PyData.depth]; omega⟩
  | n, .bl _, h => by simp [D.nice] at h
  | n, .mref _, h => by simp [D.nice] at h
  | n, .dic _ _, h => by simp [D.nice] at h
  | n, .wtup _, h => by simp [D.nice] at h
theorem niceL_py : ∀ (n : Nat) (ds : List D), niceL n ds → ∃ ps, pyCs ds = some ps ∧ PyData.canLayAll0 ps = true ∧ PyData.depthAll ps ≤ n
  | n, [], _ => ⟨[], by rw [pyCs], by simp [PyData.canLayAll0], by simp [PyData.depthAll]⟩
  | n, x :: xs, h => by
    obtain ⟨h1, h2⟩ : D.nice n x ∧ niceL n xs := by simpa [niceL] using h
    obtain ⟨p, e, c, d⟩ := nice_py n x h1
    obtain ⟨ps, e2, c2, d2⟩ := niceL_py n xs h2
    exact ⟨p :: ps, by rw [pyCs, e, e2]; rfl, by simp only [PyData.canLayAll0, c, c2, Bool.and_true], by simp only [PyData.depthAll]; omega⟩
end
mutual
theorem nice_eqv : ∀ (n m : Nat) (x y : D) (p q : PyData), x.nice n → y.nice m → pyC x = some p → pyC y = some q → (PyData.eqv p q = true ↔ x = y)
  | n, m, .non, y, p, q, h1, h2, e1, e2 => by
    rw [pyC] at e1; cases e1
    cases y with
    | non => rw [pyC] at e2; cases e2; simp [PyData.eqv]
    | int i => rw [pyC] at e2; cases e2; simp [PyData.eqv]
    | str i => rw [pyC] at e2; cases e2; simp [PyData.eqv]
    | lst i => rw [pyC] at e2; obtain ⟨r, _, rfl⟩ := Option.map_eq_some_iff.mp e2; simp [PyData.eqv]
    | tup i => rw [pyC] at e2; obtain ⟨r, _, rfl⟩ := Option.map_eq_some_iff.mp e2; simp [PyData.eqv]
    | bl b => simp [D.nice] at h2
    | mref b => simp [D.nice] at h2
    | dic a b => simp [D.nice] at h2
    | wtup a => simp [D.nice] at h2
  | n, m, .int i, y, p, q, h1, h2, e1, e2 => by
    rw [pyC] at e1; cases e1
    cases y with
    | non => rw [pyC] at e2; cases e2; simp [PyData.eqv]
    | int j => rw [pyC] at e2; cases e2; simp [PyData.eqv]
    | str i => rw [pyC] at e2; cases e2; simp [PyData.eqv]
    | lst i => rw [pyC] at e2; obtain ⟨r, _, rfl⟩ := Option.map_eq_some_iff.mp e2; simp [PyData.eqv]
    | tup i => rw [pyC] at e2; obtain ⟨r, _, rfl⟩ := Option.map_eq_some_iff.mp e2; simp [PyData.eqv]
    | bl b => simp [D.nice] at h2
    | mref b => simp [D.nice] at h2
    | dic a b => simp [D.nice] at h2
    | wtup a => simp [D.nice] at h2
  | n, m, .str i, y, p, q, h1, h2, e1, e2 => by
    rw [pyC] at e1; cases e1
    cases y with
    | non => rw [pyC] at e2; cases e2; simp [PyData.eqv]
    | int j => rw [pyC] at e2; cases e2; simp [PyData.eqv]
    | str j => rw [pyC] at e2; cases e2; simp [PyData.eqv]
    | lst i => rw [pyC] at e2; obtain ⟨r, _, rfl⟩ := Option.map_eq_some_iff.mp e2; simp [PyData.eqv]
    | tup i => rw [pyC] at e2; obtain ⟨r, _, rfl⟩ := Option.map_eq_some_iff.mp e2; simp [PyData.eqv]
    | bl b => simp [D.nice] at h2
    | mref b => simp [D.nice] at h2
    | dic a b => simp [D.nice] at h2
    | wtup a => simp [D.nice] at h2
  | n, m, .lst xs, y, p, q, h1, h2, e1, e2 => by
    rw [pyC] at e1
    obtain ⟨ps, g1, rfl⟩ := Option.map_eq_some_iff.mp e1
    obtain ⟨h0, h1⟩ : 0 < n ∧ niceL (n - 1) xs := by simpa [D.nice] using h1
    cases y with
    | non => rw [pyC] at e2; cases e2; simp [PyData.eqv]
    | int j => rw [pyC] at e2; cases e2; simp [PyData.eqv]
    | str j => rw [pyC] at e2; cases e2; simp [PyData.eqv]
    | lst ys =>
      rw [pyC] at e2
      obtain ⟨qs, g2, rfl⟩ := Option.map_eq_some_iff.mp e2
      obtain ⟨_, h2⟩ : 0 < m ∧ niceL (m - 1) ys := by simpa [D.nice] using h2
      have := niceL_eqv (n - 1) (m - 1) xs ys ps qs h1 h2 g1 g2
      simp only [PyData.eqv, D.lst.injEq]
      exact this
    | tup i => rw [pyC] at e2; obtain ⟨r, _, rfl⟩ := Option.map_eq_some_iff.mp e2; simp [PyData.eqv]
    | bl b => simp [D.nice] at h2
    | mref b => simp [D.nice] at h2
    | dic a b => simp [D.nice] at h2
    | wtup a => simp [D.nice] at h2
  | n, m, .tup xs, y, p, q, h1, h2, e1, e2 => by
    rw [pyC] at e1
    obtain ⟨ps, g1, rfl⟩ := Option.map_eq_some_iff.mp e1
    obtain ⟨h0, h1⟩ : 0 < n ∧ niceL (n - 1) xs := by simpa [D.nice] using h1
    cases y with
    | non => rw [pyC] at e2; cases e2; simp [PyData.eqv]
    | int j => rw [pyC] at e2; cases e2; simp [PyData.eqv]
    | str j => rw [pyC] at e2; cases e2; simp [PyData.eqv]
    | tup ys =>
      rw [pyC] at e2
      obtain ⟨qs, g2, rfl⟩ := Option.map_eq_some_iff.mp e2
      obtain ⟨_, h2⟩ : 0 < m ∧ niceL (m - 1) ys := by simpa [D.nice] using h2
      have := niceL_eqv (n - 1) (m - 1) xs ys ps qs h1 h2 g1 g2
      simp only [PyData.eqv, D.tup.injEq]
      exact this
    | lst i => rw [pyC] at e2; obtain ⟨r, _, rfl⟩ := Option.map_eq_some_iff.mp e2; simp [PyData.eqv]
    | bl b => simp [D.nice] at h2
    | mref b => simp [D.nice] at h2
    | dic a b => simp [D.nice] at h2
    | wtup a => simp [D.nice] at h2
  | n, m, .bl _, y, p, q, h1, h2, e1, e2 => by simp [D.nice] at h1
  | n, m, .mref _, y, p, q, h1, h2, e1, e2 => by simp [D.nice] at h1
  | n, m, .dic _ _, y, p, q, h1, h2, e1, e2 => by simp [D.nice] at h1
  | n, m, .wtup _, y, p, q, h1, h2, e1, e2 => by simp [D.nice] at h1
theorem niceL_eqv : ∀ (n m : Nat) (xs ys : List D) (ps qs : List PyData), niceL n xs → niceL m ys → pyCs xs = some ps → pyCs ys = some qs → (PyData.eqvAll ps qs = true ↔ xs = ys)
  | n, m, [], ys, ps, qs, h1, h2, e1, e2 => by
    rw [pyCs] at e1; cases e1
    cases ys with
    | nil => rw [pyCs] at e2; cases e2; simp [PyData.eqvAll]
    | cons y ys =>
      obtain ⟨q, qs', rfl⟩ : ∃ q qs', qs = q :: qs' := by
        rw [pyCs] at e2
        cases g : pyC y with
        | none => rw [g] at e2; cases e2
        | some q => cases g2 : pyCs ys with
          | none => rw [g, g2] at e2; cases e2
          | some qs' => rw [g, g2] at e2; cases e2; exact ⟨_, _, rfl⟩
      simp [PyData.eqvAll]
  | n, m, x :: xs, ys, ps, qs, h1, h2, e1, e2 => by
    obtain ⟨k1, k2⟩ : D.nice n x ∧ niceL n xs := by simpa [niceL] using h1
    rw [pyCs] at e1
    cases g : pyC x with
    | none => rw [g] at e1; cases e1
    | some p =>
      cases g' : pyCs xs with
      | none => rw [g, g'] at e1; cases e1
      | some ps' =>
        rw [g, g'] at e1
        cases e1
        cases ys with
        | nil => rw [pyCs] at e2; cases e2; simp [PyData.eqvAll]
        | cons y ys =>
          obtain ⟨l1, l2⟩ : D.nice m y ∧ niceL m ys := by simpa [niceL] using h2
          rw [pyCs] at e2
          cases f : pyC y with
          | none => rw [f] at e2; cases e2
          | some q =>
            cases f' : pyCs ys with
            | none => rw [f, f'] at e2; cases e2
            | some qs' =>
              rw [f, f'] at e2
              cases e2
              have i1 := nice_eqv n m x y p q k1 l1 g f
              have i2 := niceL_eqv n m xs ys ps' qs' k2 l2 g' f'
              simp only [PyData.eqvAll, Bool.and_eq_true, List.cons.injEq]
              rw [i1, i2]
end
theorem pyS_nice {μ : Mu} {d : D} {n : Nat} (h : d.nice n) (hn : n ≤ 64) : ∃ p, pyC d = some p ∧ pyS μ d = some p := by
  obtain ⟨p, e, c, dd⟩ := nice_py n d h
  refine ⟨p, e, ?_⟩
  have e2 : pyD μ d = some p := by
    cases d with
    | mref h' => simp [D.nice] at h
    | _ => exact e
  unfold pyS
  rw [e2, Option.bind_some, if_pos]
  show (p.canLay0 && decide (p.depth ≤ 64)) = true
  rw [c, Bool.true_and]
  exact decide_eq_true (by omega)
section
variable {μ : Mu} {Q : D → Mu → Prop} {E : Exn → Mu → Prop} {x y : D}
open Classical in
theorem rn_eqD (hx : x.nice 60) (hy : y.nice 60) : Rn (oEq x y) μ Q E ↔ Q (.bl (decide (x = y))) μ := by
  obtain ⟨p, e1, e2⟩ := pyS_nice (μ := μ) hx (by decide)
  obtain ⟨q, f1, f2⟩ := pyS_nice (μ := μ) hy (by decide)
  have hb : PyData.eqv p q = decide (x = y) := by
    rw [Bool.eq_iff_iff, decide_eq_true_eq]
    exact nice_eqv 60 60 x y p q hx hy e1 f1
  have e : (pyS μ x).bind (fun p => (pyS μ y).bind fun q => some (D.bl (PyData.eqv p q))) = some (.bl (decide (x = y))) := by
    rw [e2, f2, Option.bind_some, Option.bind_some, hb]
  exact rn_look.trans ⟨fun ⟨a, h, q⟩ => by rw [e] at h; cases h; exact q, fun q => ⟨_, e, q⟩⟩
open Classical in
theorem rn_neD (hx : x.nice 60) (hy : y.nice 60) : Rn (oNe x y) μ Q E ↔ Q (.bl (!decide (x = y))) μ := by
  obtain ⟨p, e1, e2⟩ := pyS_nice (μ := μ) hx (by decide)
  obtain ⟨q, f1, f2⟩ := pyS_nice (μ := μ) hy (by decide)
  have hb : PyData.eqv p q = decide (x = y) := by
    rw [Bool.eq_iff_iff, decide_eq_true_eq]
    exact nice_eqv 60 60 x y p q hx hy e1 f1
  have e : (pyS μ x).bind (fun p => (pyS μ y).bind fun q => some (D.bl (!PyData.eqv p q))) = some (.bl (!decide (x = y))) := by
    rw [e2, f2, Option.bind_some, Option.bind_some, hb]
  exact rn_look.trans ⟨fun ⟨a, h, q⟩ => by rw [e] at h; cases h; exact q, fun q => ⟨_, e, q⟩⟩
end
end DL

namespace DL
open PySem PySem.Spec L2
theorem law_true {g : Sl → CS} {m : Nat} {ds : List D} (h : OkS (g (st0 m ds)) [] fun r μ1 => r = .rt (.bl true)) : ∃ μ2, denC m g ds [] = some (.ok (.bl true), μ2) := by
  suffices h : Ok (denC m g ds) [] fun r μ1 => r = .bl true by
    obtain ⟨r, μ2, e, q⟩ := h
    exact ⟨μ2, by rw [e, q]⟩
  refine denC_ok ?_
  refine OkS.imp (Q := fun r μ1 => r = .rt (.bl true)) h fun r μ1 e => ?_
  subst e
  have c := cutV_self (n := 0) (μ' := μ1) (d := .bl true) trivial
  exact ⟨fun i mo hi => absurd hi (Nat.not_lt_zero _), .bl true, rfl, .bl true, c.1, fun d2 h2 => c.2 d2 h2⟩
theorem for_cells {b : Sl → CS} {n : Int} {j : Nat} {ns : List Int} (hns : ns.length ≤ 63) {I : Sl → Prop} {sl : Sl} {μ : Mu} {Q : SR → Mu → Prop}
    (h0 : I sl) (hv : ∀ sl, I sl → sl[0]? = some (some (.lst (ns.map .int))))
    (hb : ∀ (z : Int) (sl : Sl) (μ : Mu), I sl → ∃ sl', (dgName j).go (.int z) sl = some sl' ∧ OkS (b sl') μ fun r _ => ∃ sl2, I sl2 ∧ r = .nx sl2)
    (q : ∀ sl2 μ2, I sl2 → Q (.nx sl2) μ2) :
    OkS (sFor (iSeq (eSl (eOp2 oAdd (eVar 0) (eCB oLst (aCons (eK (.int 0)) aNil))) pNo (pSome (eK (.int n))))) (dgName j) b sl) μ Q := by
  refine oks_forR (fun items gs k sl μk => gs = [] ∧ (∀ d ∈ items, ∃ z, d = D.int z) ∧ I sl) ?_
  have h0' : sl[0]?.bind id = some (.lst (ns.map .int)) := by rw [hv sl h0]; rfl
  simp only [rn_iseq, rn_sl, rn_pNo, rn_pSome, rn_op2, rn_cb, rn_cons, rn_nil, rn_k, rn_var, rn_lst, h0', Option.some.injEq, exists_eq_left', D.int.injEq]
  have hb1 : (1 : Nat) ≤ sizeLine := by decide
  refine ⟨hb1, ?_⟩
  have hadd : (if (ns.map D.int).length + 1 ≤ sizeLine then some (D.lst ((ns.map D.int) ++ [.int 0])) else none) = some (D.lst ((ns.map D.int) ++ [.int 0])) := if_pos (by rw [List.length_map]; exact Nat.le_trans (show ns.length + 1 ≤ 64 by omega) (by decide))
  refine (rn_look (f := fun _ => if (ns.map D.int).length + 1 ≤ sizeLine then some (D.lst ((ns.map D.int) ++ [.int 0])) else none)).mpr ⟨_, hadd, ?_⟩
  refine (rn_look (f := fun μ => (dL μ (D.lst ((ns.map D.int) ++ [.int 0]))).bind fun xs => some (D.lst (cutD xs none (some n))))).mpr ⟨D.lst (cutD ((ns.map D.int) ++ [.int 0]) none (some n)), rfl, ?_⟩
  have hall : ∀ d ∈ (ns.map D.int) ++ [D.int 0], ∃ z, d = D.int z := by
    intro d hd
    rcases List.mem_append.mp hd with hd | hd
    · obtain ⟨z, _, rfl⟩ := List.mem_map.mp hd
      exact ⟨z, rfl⟩
    · exact ⟨0, by simpa using hd⟩
  refine ⟨(cutD ((ns.map D.int) ++ [.int 0]) none (some n), []), rfl, guard_nil _, ⟨rfl, ?_, h0⟩, ?_, ?_⟩
  · intro d hd
    unfold cutD at hd
    exact hall d (List.mem_of_mem_drop (List.mem_of_mem_take hd))
  · rintro i d sl μ1 hd ⟨_, hit, hI⟩
    obtain ⟨z, rfl⟩ := hit d (List.mem_of_getElem? hd)
    obtain ⟨sl', e, ho⟩ := hb z sl μ1 hI
    refine ⟨sl', e, ho.imp ?_⟩
    rintro r μ2 ⟨sl2, h2, rfl⟩
    exact ⟨guard_nil _, rfl, hit, h2⟩
  · rintro sl μ1 ⟨_, hit, hI⟩
    exact q _ _ hI
end DL

namespace DL
open PySem PySem.Spec L2
section
variable {μ : Mu} {Q : D → Mu → Prop} {E : Exn → Mu → Prop} {sl : Sl}
theorem rn_dic {ks : List Key} {ds : List D} : Rn (oDic ks ds) μ Q E ↔ Q (.dic ks ds) μ := Iff.rfl
theorem rn_dicM {ks : List Key} {ds : List D} : Rn (oDicM ks ds) μ Q E ↔ Q (.mref μ.length) (μ ++ [some (.dic ks ds)]) := Iff.rfl
theorem rn_dgetD {ks : List Key} {xs : List D} {y : D} : Rn (oDget (.dic ks xs) y) μ Q E ↔ ∃ k, keyD y = some k ∧ ∃ d, lkD ks xs k = some d ∧ Q d μ := by
  refine (rn_look (f := fun μ => (dicD μ (.dic ks xs)).bind fun p => (keyD y).bind fun k => lkD p.1 p.2 k)).trans ?_
  show (∃ a, ((keyD y).bind fun k => lkD ks xs k) = some a ∧ _) ↔ _
  cases keyD y with
  | none => exact ⟨fun ⟨a, e, _⟩ => (by cases e), fun ⟨a, e, _⟩ => by cases e⟩
  | some k => exact ⟨fun ⟨a, e, q⟩ => ⟨k, rfl, a, e, q⟩, fun ⟨k', e, a, e2, q⟩ => by cases e; exact ⟨a, e2, q⟩⟩
theorem dicD_at {h : Nat} {ks : List Key} {xs : List D} (e : μ[h]? = some (some (.dic ks xs))) : dicD μ (.mref h) = some (ks, xs) := by
  show (match μ[h]? with | some (some (.dic ks xs)) => some (ks, xs) | _ => none) = some (ks, xs)
  rw [e]
theorem at_dicD {h : Nat} {p : List Key × List D} (e : dicD μ (.mref h) = some p) : μ[h]? = some (some (.dic p.1 p.2)) := by
  have e : (match μ[h]? with | some (some (.dic ks xs)) => some (ks, xs) | _ => none) = some p := e
  cases q : μ[h]? with
  | none => rw [q] at e; cases e
  | some o =>
    cases o with
    | none => rw [q] at e; cases e
    | some mo => cases mo <;> (rw [q] at e; cases e) <;> rfl
theorem rn_dgetM {h : Nat} {y : D} : Rn (oDget (.mref h) y) μ Q E ↔ ∃ ks xs, μ[h]? = some (some (.dic ks xs)) ∧ ∃ k, keyD y = some k ∧ ∃ d, lkD ks xs k = some d ∧ Q d μ := by
  refine (rn_look (f := fun μ => (dicD μ (.mref h)).bind fun p => (keyD y).bind fun k => lkD p.1 p.2 k)).trans ?_
  constructor
  · rintro ⟨a, e, q⟩
    cases e1 : dicD μ (.mref h) with
    | none => rw [e1] at e; cases e
    | some p =>
      rw [e1, Option.bind_some] at e
      cases e2 : keyD y with
      | none => rw [e2] at e; cases e
      | some k => rw [e2, Option.bind_some] at e; exact ⟨p.1, p.2, at_dicD e1, k, rfl, a, e, q⟩
  · rintro ⟨ks, xs, h1, k, h2, d, h3, q⟩
    exact ⟨d, by rw [dicD_at h1, h2]; exact h3, q⟩
end
end DL

namespace DL
open PySem PySem.Spec L2
/-! ## more words, run -/
theorem denC_cut {m : Nat} {g : Sl → CS} {ds : List D} {μ : Mu} {Q : D → Mu → Prop} (h : OkS (g (st0 m ds)) μ fun r μ1 => ∃ d, r = .rt d ∧ d.bel μ.length ∧ MuLow μ.length μ μ1 ∧ Q d (μ1.take μ.length)) : Ok (denC m g ds) μ Q := by
  refine denC_ok (h.imp fun r μ1 ⟨d, e, hb, hlow, q⟩ => ?_)
  subst e
  refine ⟨hlow, d, rfl, d, (cutV_self hb).1, fun d2 h2 => ?_⟩
  rw [(cutV_self hb).2 d2 h2]
  exact q
/-- a living list that is returned is data from then on -/
theorem denC_cutL {m : Nat} {g : Sl → CS} {ds : List D} {μ : Mu} {Q : D → Mu → Prop} (h : OkS (g (st0 m ds)) μ fun r μ1 => ∃ k xs, r = .rt (.mref k) ∧ μ.length ≤ k ∧ μ1[k]? = some (some (.lst xs)) ∧ belL μ.length xs ∧ MuLow μ.length μ μ1 ∧ Q (.lst xs) (μ1.take μ.length)) : Ok (denC m g ds) μ Q := by
  refine denC_ok (h.imp fun r μ1 ⟨k, xs, e, hk, hg, hb, hlow, q⟩ => ?_)
  subst e
  refine ⟨hlow, .mref k, rfl, .lst xs, .inr ⟨k, xs, rfl, hk, hg, hb, rfl⟩, fun d2 h2 => ?_⟩
  rcases h2 with ⟨_, h2⟩ | ⟨h', ys, e1, _, e2, _, rfl⟩
  · exact absurd (show k < μ.length from h2) (by omega)
  · cases e1
    rw [hg] at e2
    cases e2
    exact q
section
variable {μ : Mu} {Q : D → Mu → Prop} {E : Exn → Mu → Prop} {sl : Sl}
theorem rn_look_of {α : Type} {f : Mu → Option α} {a : α} {Q : α → Mu → Prop} {E : Exn → Mu → Prop} (e : f μ = some a) : Rn (Cm.look f) μ Q E ↔ Q a μ := rn_look.trans ⟨fun ⟨b, h, q⟩ => by rw [e] at h; cases h; exact q, fun q => ⟨a, e, q⟩⟩
theorem dL_m {h : Nat} {xs : List D} (hm : μ[h]? = some (some (.lst xs))) : dL μ (.mref h) = some xs := dLT_m hm
theorem rn_minL {xs : List D} {ns : List Int} {m : Int} (e : intsD xs = some ns) (hm : lMin ns = some m) : Rn (oMinL [.lst xs]) μ Q E ↔ Q (.int m) μ := rn_look_of (by show (intsD xs).bind _ = _; rw [e, Option.bind_some, hm]; rfl)
theorem rn_maxL {xs : List D} {ns : List Int} {m : Int} (e : intsD xs = some ns) (hm : lMax ns = some m) : Rn (oMaxL [.lst xs]) μ Q E ↔ Q (.int m) μ := rn_look_of (by show (intsD xs).bind _ = _; rw [e, Option.bind_some, hm]; rfl)
theorem rn_minM {h : Nat} {xs : List D} {ns : List Int} {m : Int} (hg : μ[h]? = some (some (.lst xs))) (e : intsD xs = some ns) (hm : lMin ns = some m) : Rn (oMinL [.mref h]) μ Q E ↔ Q (.int m) μ := rn_look_of (by rw [dL_m hg, Option.bind_some, e, Option.bind_some, hm]; rfl)
theorem rn_maxM {h : Nat} {xs : List D} {ns : List Int} {m : Int} (hg : μ[h]? = some (some (.lst xs))) (e : intsD xs = some ns) (hm : lMax ns = some m) : Rn (oMaxL [.mref h]) μ Q E ↔ Q (.int m) μ := rn_look_of (by rw [dL_m hg, Option.bind_some, e, Option.bind_some, hm]; rfl)
theorem rn_sumL {xs : List D} {ns : List Int} (e : intsD xs = some ns) : Rn (oSumL [.lst xs]) μ Q E ↔ Q (.int ns.sum) μ := rn_look_of (by show (intsD xs).map _ = _; rw [e]; rfl)
theorem rn_anyL {xs : List D} {bs : List Bool} (e : blsD xs = some bs) : Rn (oAnyL [.lst xs]) μ Q E ↔ Q (.bl (bs.any id)) μ := rn_look_of (by show (blsD xs).map _ = _; rw [e]; rfl)
theorem rn_allL {xs : List D} {bs : List Bool} (e : blsD xs = some bs) : Rn (oAllL [.lst xs]) μ Q E ↔ Q (.bl (bs.all id)) μ := rn_look_of (by show (blsD xs).map _ = _; rw [e]; rfl)
theorem rn_sortT {mk : List D → Cm D} {xs : List D} {ns : List Int} (e : intsD xs = some ns) : Rn (oSortA mk [.tup xs]) μ Q E ↔ Rn (mk ((sortI ns).map D.int)) μ Q E := by
  show Rn ((Cm.lift (intsD xs)).bind fun ns => mk ((sortI ns).map D.int)) μ Q E ↔ _
  rw [e, rn_bind, rn_lift]
  exact ⟨fun ⟨a, h, q⟩ => by cases h; exact q, fun q => ⟨_, rfl, q⟩⟩
theorem rn_sortL {mk : List D → Cm D} {xs : List D} {ns : List Int} (e : intsD xs = some ns) : Rn (oSortA mk [.lst xs]) μ Q E ↔ Rn (mk ((sortI ns).map D.int)) μ Q E := by
  show Rn ((Cm.look fun μ => (dL μ (.lst xs)).bind intsD).bind fun ns => mk ((sortI ns).map D.int)) μ Q E ↔ _
  rw [rn_bind]
  exact rn_look_of (by show intsD xs = _; exact e)
theorem rn_lstRg {mk : List D → Cm D} {fa : Sl → Cm D} : Rn (eLstRg mk fa sl) μ Q E ↔ Rn (fa sl) μ (fun d μ1 => ∃ n, rgN d = some n ∧ Rn (mk (upto 0 n.toNat)) μ1 Q E) E := by
  unfold eLstRg; simp only [rn_bind, rn_lift]
theorem rn_lstAcc {mk : List D → Cm D} {fa : Sl → Cm D} : Rn (eLstAcc mk fa sl) μ Q E ↔ Rn (fa sl) μ (fun d μ1 => ∃ ns, (dL μ1 d).bind intsD = some ns ∧ Rn (mk ((psums ns).map D.int)) μ1 Q E) E := by
  unfold eLstAcc; simp only [rn_bind, rn_look]
theorem rn_listL {mk : List D → Cm D} {xs : List D} : Rn (oListOf mk [.lst xs]) μ Q E ↔ Rn (mk xs) μ Q E := rn_bind.trans (rn_look_of rfl)
theorem rn_listT {mk : List D → Cm D} {xs : List D} : Rn (oListOf mk [.tup xs]) μ Q E ↔ Rn (mk xs) μ Q E := rn_bind.trans (rn_look_of rfl)
theorem rn_listM {mk : List D → Cm D} {h : Nat} {xs : List D} (hg : μ[h]? = some (some (.lst xs))) : Rn (oListOf mk [.mref h]) μ Q E ↔ Rn (mk xs) μ Q E := rn_bind.trans (rn_look_of (by exact dLT_m hg))
theorem rn_popM {h : Nat} {i : Int} {xs : List D} {y : D} {k : Nat} (hg : μ[h]? = some (some (.lst xs))) (hi : -(2 ^ 63) ≤ i ∧ i < 2 ^ 63) (hk : seqIndex? i xs.length = some k) (hy : xs[k]? = some y) : Rn (oPopAt (.mref h) [.int i]) μ Q E ↔ Q y (μ.set h (some (.lst (xs.eraseIdx k)))) := by
  refine rn_mu.trans ⟨fun ⟨zs, ys, d, h1, h2, q⟩ => ?_, fun q => ⟨xs, _, _, hg, by rw [if_pos hi, hk, Option.bind_some, hy]; rfl, q⟩⟩
  rw [hg] at h1
  cases h1
  rw [if_pos hi, hk, Option.bind_some, hy] at h2
  cases h2
  exact q
theorem rn_addM2 {h : Nat} {ys : List D} : Rn (oAdd (.mref h) (.lst ys)) μ Q E ↔ ∃ xs, μ[h]? = some (some (.lst xs)) ∧ xs.length + ys.length ≤ sizeLine ∧ Q (.lst (xs ++ ys)) μ := by
  have e : ∀ μ, Rn (oAdd (.mref h) (.lst ys)) μ Q E ↔ ∃ d, (dL μ (.mref h)).bind (fun xs => if xs.length + ys.length ≤ sizeLine then some (D.lst (xs ++ ys)) else none) = some d ∧ Q d μ := fun μ => rn_look
  rw [e]
  constructor
  · rintro ⟨d, h1, q⟩
    cases e1 : dL μ (.mref h) with
    | none => rw [e1] at h1; cases h1
    | some xs =>
      rw [e1, Option.bind_some] at h1
      by_cases hl : xs.length + ys.length ≤ sizeLine
      · rw [if_pos hl] at h1; cases h1; exact ⟨xs, mref_l e1, hl, q⟩
      · rw [if_neg hl] at h1; cases h1
  · rintro ⟨xs, h1, h2, q⟩
    exact ⟨_, by rw [dL_m h1, Option.bind_some, if_pos h2], q⟩
theorem rn_addLL {xs ys : List D} : Rn (oAdd (.lst xs) (.lst ys)) μ Q E ↔ xs.length + ys.length ≤ sizeLine ∧ Q (.lst (xs ++ ys)) μ := by
  have e : ∀ μ, Rn (oAdd (.lst xs) (.lst ys)) μ Q E ↔ ∃ d, (if xs.length + ys.length ≤ sizeLine then some (D.lst (xs ++ ys)) else none) = some d ∧ Q d μ := fun μ => rn_look
  rw [e]
  by_cases hl : xs.length + ys.length ≤ sizeLine
  · rw [if_pos hl]; exact ⟨fun ⟨a, h, q⟩ => by cases h; exact ⟨hl, q⟩, fun q => ⟨_, rfl, q.2⟩⟩
  · rw [if_neg hl]; exact ⟨fun ⟨a, h, q⟩ => (by cases h), fun q => absurd q.1 hl⟩
theorem rn_addTT {xs ys : List D} : Rn (oAdd (.tup xs) (.tup ys)) μ Q E ↔ (xs ≠ [] ∧ xs.length + ys.length ≤ sizeLine) ∧ Q (.tup (xs ++ ys)) μ := rn_guard (p := xs ≠ [] ∧ xs.length + ys.length ≤ sizeLine) (a := Cm.ok (D.tup (xs ++ ys)))
theorem rn_slT {xs : List D} {lo hi : Option Int} : Rn (oSl (.tup xs) lo hi) μ Q E ↔ Q (.tup (cutD xs lo hi)) μ := Iff.rfl
theorem rn_slL {xs : List D} {lo hi : Option Int} : Rn (oSl (.lst xs) lo hi) μ Q E ↔ Q (.lst (cutD xs lo hi)) μ := rn_look_of (f := fun μ => (dL μ (.lst xs)).bind fun xs => some (D.lst (cutD xs lo hi))) rfl
theorem rn_slM {h : Nat} {xs : List D} {lo hi : Option Int} (hg : μ[h]? = some (some (.lst xs))) : Rn (oSl (.mref h) lo hi) μ Q E ↔ Q (.lst (cutD xs lo hi)) μ := rn_look_of (f := fun μ => (dL μ (.mref h)).bind fun xs => some (D.lst (cutD xs lo hi))) (by rw [dL_m hg]; rfl)
theorem rn_revT {xs : List D} : Rn (oRev (.tup xs)) μ Q E ↔ Q (.tup xs.reverse) μ := Iff.rfl
theorem rn_abs {i : Int} : Rn (oAbs [.int i]) μ Q E ↔ Q (.int (if i < 0 then -i else i)) μ := Iff.rfl
theorem rn_rg1 {fs : Sl → Cm (List D)} {Q : List D × List (Nat × List D) → Mu → Prop} {E : Exn → Mu → Prop} : Rn (iRange1 fs sl) μ Q E ↔ Rn (fs sl) μ (fun ds μ1 => ∃ p, (int1 ds).bind (fun j => if -(2 ^ 62) ≤ j ∧ j < 2 ^ 62 then some (upto 0 j.toNat, ([] : List (Nat × List D))) else none) = some p ∧ Q p μ1) E := by
  unfold iRange1; simp only [rn_bind, rn_lift]
theorem rn_rg1I {n : Int} {Q : List D × List (Nat × List D) → Mu → Prop} (h0 : -(2 ^ 62) ≤ n) (h1 : n < 2 ^ 62) : (∃ p, (int1 [D.int n]).bind (fun j => if -(2 ^ 62) ≤ j ∧ j < 2 ^ 62 then some (upto 0 j.toNat, ([] : List (Nat × List D))) else none) = some p ∧ Q p μ) ↔ Q (upto 0 n.toNat, []) μ := by
  have e : (int1 [D.int n]).bind (fun j => if -(2 ^ 62) ≤ j ∧ j < 2 ^ 62 then some (upto 0 j.toNat, ([] : List (Nat × List D))) else none) = some (upto 0 n.toNat, []) := by
    show (if -(2 ^ 62) ≤ n ∧ n < 2 ^ 62 then some (upto 0 n.toNat, ([] : List (Nat × List D))) else none) = _
    rw [if_pos ⟨h0, h1⟩]
  exact ⟨fun ⟨p, h, q⟩ => by rw [e] at h; cases h; exact q, fun q => ⟨_, e, q⟩⟩
theorem rn_rgE {f : Sl → Cm D} {n : Int} {Q : List D × List (Nat × List D) → Mu → Prop} {E : Exn → Mu → Prop} (h0 : -(2 ^ 62) ≤ n) (h1 : n < 2 ^ 62) (hf : ∀ R : D → Mu → Prop, Rn (f sl) μ R E ↔ R (.int n) μ) : Rn (iRange1 (aCons f aNil) sl) μ Q E ↔ Q (upto 0 n.toNat, []) μ := by
  rw [rn_rg1, rn_cons, hf]
  simp only [rn_nil]
  exact rn_rg1I h0 h1
theorem rn_rgV {i : Nat} {n : Int} {Q : List D × List (Nat × List D) → Mu → Prop} {E : Exn → Mu → Prop} (h : sl[i]?.bind id = some (.int n)) (h0 : -(2 ^ 62) ≤ n) (h1 : n < 2 ^ 62) : Rn (iRange1 (aCons (eVar i) aNil) sl) μ Q E ↔ Q (upto 0 n.toNat, []) μ :=
  rn_rgE h0 h1 fun R => by rw [rn_var, h]; exact ⟨fun ⟨d, e, q⟩ => by cases e; exact q, fun q => ⟨_, rfl, q⟩⟩
theorem rn_rgK {n : Int} {Q : List D × List (Nat × List D) → Mu → Prop} {E : Exn → Mu → Prop} (h0 : -(2 ^ 62) ≤ n) (h1 : n < 2 ^ 62) : Rn (iRange1 (aCons (eK (.int n)) aNil) sl) μ Q E ↔ Q (upto 0 n.toNat, []) μ := rn_rgE h0 h1 fun R => rn_k
theorem rn_izp {f g : Sl → Cm D} {Q : List D × List (Nat × List D) → Mu → Prop} {E : Exn → Mu → Prop} : Rn (iZp f g sl) μ Q E ↔ Rn (f sl) μ (fun d μ1 => Rn (g sl) μ1 (fun e μ2 => ∃ p, itemsD μ2 d = some p ∧ ∃ q, itemsD μ2 e = some q ∧ Q (zipD p.1 q.1, p.2 ++ q.2) μ2) E) E := by
  unfold iZp
  rw [rn_bind]
  refine Rn.congr fun d μ1 => ?_
  rw [rn_bind]
  refine Rn.congr fun e μ2 => ?_
  rw [rn_look]
  cases itemsD μ2 d with
  | none => exact ⟨fun ⟨a, e, _⟩ => (by cases e), fun ⟨a, e, _⟩ => by cases e⟩
  | some p =>
    cases itemsD μ2 e with
    | none => exact ⟨fun ⟨a, e, _⟩ => (by cases e), fun ⟨p, _, a, e, _⟩ => by cases e⟩
    | some q => exact ⟨fun ⟨a, e, k⟩ => by cases e; exact ⟨p, rfl, q, rfl, k⟩, fun ⟨p', e, q', e2, k⟩ => by cases e; cases e2; exact ⟨_, rfl, k⟩⟩
theorem upto_getI {n i : Nat} {d : D} (h : (upto 0 n)[i]? = some d) : i < n ∧ d = .int (i : Int) := by
  unfold upto at h
  rw [List.getElem?_map] at h
  cases e : (List.range n)[i]? with
  | none => rw [e] at h; cases h
  | some j =>
    rw [e] at h
    cases h
    have h1 := (List.getElem?_eq_some_iff.mp e).1
    have h2 := (List.getElem?_eq_some_iff.mp e).2
    rw [List.length_range] at h1
    rw [List.getElem_range] at h2
    subst h2
    exact ⟨h1, by simp⟩
theorem upto_lenN {n : Nat} : (upto 0 n).length = n := by unfold upto; simp
theorem rn_all {fi : Sl → Cm D} {js : List Nat} {q : List D → Option D} : Rn (eAll fi js q sl) μ Q E ↔ Rn (fi sl) μ (fun d μ1 => ∃ p, itemsD μ1 d = some p ∧ ∃ cds, capsD sl js = some cds ∧ ∃ bs, (eachQ q cds p.1).bind blsD = some bs ∧ Q (.bl (bs.all id)) μ1) E := by
  unfold eAll genD
  rw [rn_bind]
  refine Rn.congr fun d μ1 => ?_
  rw [rn_look]
  cases itemsD μ1 d with
  | none => exact ⟨fun ⟨a, e, _⟩ => (by cases e), fun ⟨p, e, _⟩ => by cases e⟩
  | some p =>
    rw [Option.bind_some]
    cases capsD sl js with
    | none => exact ⟨fun ⟨a, e, _⟩ => (by cases e), fun ⟨p, _, c, e, _⟩ => by cases e⟩
    | some cds =>
      rw [Option.bind_some]
      cases e1 : eachQ q cds p.1 with
      | none => exact ⟨fun ⟨a, e, _⟩ => (by cases e), fun ⟨p', h, c, h2, bs, e, _⟩ => by cases h; cases h2; rw [e1] at e; cases e⟩
      | some ys =>
        rw [Option.bind_some]
        cases e2 : blsD ys with
        | none => exact ⟨fun ⟨a, e, _⟩ => (by cases e), fun ⟨p', h, c, h2, bs, e, _⟩ => by cases h; cases h2; rw [e1, Option.bind_some, e2] at e; cases e⟩
        | some bs =>
          refine ⟨fun ⟨a, e, k⟩ => by cases e; exact ⟨p, rfl, cds, rfl, bs, by rw [e1, Option.bind_some, e2], k⟩, fun ⟨p', h, c, h2, bs', e, k⟩ => ?_⟩
          cases h; cases h2
          rw [e1, Option.bind_some, e2] at e
          cases e
          exact ⟨_, rfl, k⟩
theorem eachQ_map {q : List D → Option D} {cds : List D} {f : D → D} : ∀ {xs : List D}, (∀ x ∈ xs, q (x :: cds) = some (f x)) → eachQ q cds xs = some (xs.map f)
  | [], _ => rfl
  | x :: xs, h => by
    show (q (x :: cds)).bind _ = _
    rw [h x List.mem_cons_self, Option.bind_some, eachQ_map fun y hy => h y (List.mem_cons_of_mem _ hy)]; rfl
theorem blsD_map {α : Type} (f : α → Bool) : ∀ l : List α, blsD (l.map fun x => D.bl (f x)) = some (l.map f)
  | [] => rfl
  | x :: l => by
    show (blsD (l.map fun x => D.bl (f x))).map (f x :: ·) = _
    rw [blsD_map f l]; rfl
theorem eachQ_all {q : List D → Option D} {cds : List D} {xs : List D} (h : ∀ x ∈ xs, q (x :: cds) = some (.bl true)) : ∃ bs, (eachQ q cds xs).bind blsD = some bs ∧ bs.all id = true := by
  rw [eachQ_map (f := fun _ => .bl true) h, Option.bind_some, blsD_map (fun _ => true)]
  exact ⟨_, rfl, by simp⟩
theorem intsD_ints : ∀ ns : List Int, intsD (ns.map D.int) = some ns
  | [] => rfl
  | n :: ns => by
    show (intsD (ns.map D.int)).map (n :: ·) = _
    rw [intsD_ints ns]; rfl
theorem belL_ints (n : Nat) : ∀ r : List Int, belL n (r.map D.int)
  | [] => trivial
  | _ :: r => ⟨trivial, belL_ints n r⟩
theorem niceL_ints {n : Nat} : ∀ r : List Int, niceL n (r.map D.int)
  | [] => trivial
  | _ :: r => ⟨trivial, niceL_ints r⟩
theorem nice_ints {n : Nat} {r : List Int} (h : 0 < n) : (D.lst (r.map D.int)).nice n := ⟨h, niceL_ints r⟩
theorem nice_intsT {n : Nat} {r : List Int} (h : 0 < n) : (D.tup (r.map D.int)).nice n := ⟨h, niceL_ints r⟩
theorem atI_ok {xs : List D} {j : Nat} {d : D} (h : xs[j]? = some d) : atI xs (j : Int) = some d := by
  have hl : j < xs.length := (List.getElem?_eq_some_iff.mp h).1
  unfold atI
  have e : ixN xs.length (j : Int) = some j := by
    unfold ixN
    simp
    omega
  rw [e]; exact h
theorem ixN_ok {n j : Nat} (h : j < n) : ixN n (j : Int) = some j := by
  unfold ixN
  simp
  omega
theorem pyS_m {h : Nat} {xs : List D} (hg : μ[h]? = some (some (.lst xs))) {n : Nat} (hx : (D.lst xs).nice n) (hn : n ≤ 64) : ∃ p, pyC (.lst xs) = some p ∧ pyS μ (.mref h) = some p := by
  obtain ⟨p, e1, e2⟩ := pyS_nice (μ := μ) hx hn
  refine ⟨p, e1, ?_⟩
  have e3 : pyD μ (.mref h) = pyD μ (.lst xs) := by
    show (dL μ (.mref h)).bind (fun xs => (pyCs xs).map .list) = pyC (.lst xs)
    rw [dL_m hg, pyC]; rfl
  unfold pyS at e2 ⊢
  rw [e3]; exact e2
open Classical in
theorem rn_neM {h : Nat} {xs : List D} {y : D} (hg : μ[h]? = some (some (.lst xs))) (hx : (D.lst xs).nice 60) (hy : y.nice 60) : Rn (oNe (.mref h) y) μ Q E ↔ Q (.bl (!decide (D.lst xs = y))) μ := by
  obtain ⟨p, e1, e2⟩ := pyS_m hg hx (by decide)
  obtain ⟨q, f1, f2⟩ := pyS_nice (μ := μ) hy (by decide)
  have hb : PyData.eqv p q = decide (D.lst xs = y) := by
    rw [Bool.eq_iff_iff, decide_eq_true_eq]
    exact nice_eqv 60 60 _ y p q hx hy e1 f1
  exact rn_look_of (by rw [e2, f2, Option.bind_some, Option.bind_some, hb])
open Classical in
theorem rn_eqM {h : Nat} {xs : List D} {y : D} (hg : μ[h]? = some (some (.lst xs))) (hx : (D.lst xs).nice 60) (hy : y.nice 60) : Rn (oEq (.mref h) y) μ Q E ↔ Q (.bl (decide (D.lst xs = y))) μ := by
  obtain ⟨p, e1, e2⟩ := pyS_m hg hx (by decide)
  obtain ⟨q, f1, f2⟩ := pyS_nice (μ := μ) hy (by decide)
  have hb : PyData.eqv p q = decide (D.lst xs = y) := by
    rw [Bool.eq_iff_iff, decide_eq_true_eq]
    exact nice_eqv 60 60 _ y p q hx hy e1 f1
  exact rn_look_of (by rw [e2, f2, Option.bind_some, Option.bind_some, hb])
end
end DL

namespace TX
open PySem PySem.Spec L2 DL
/-! ## a law's source of digits: a list of three numbers; k draws -/
/-- the source at h, its first cell b, c draws so far -/
def Src (μ : Mu) (h : Nat) (b c : Int) : Prop := ∃ a : Int, μ[h]? = some (some (.lst [.int a, .int b, .int c]))
/-- what a helper leaves of the source -/
def Drawn (μ μ1 : Mu) (h : Nat) (b c : Int) (k : Nat) : Prop := ∃ a' c' : Int, 0 ≤ c' ∧ c' ≤ c + k ∧ μ1 = μ.set h (some (.lst [.int a', .int b, .int c']))
theorem Drawn.src {μ μ1 : Mu} {h : Nat} {b c : Int} {k : Nat} (d : Drawn μ μ1 h b c k) (hl : h < μ.length) : ∃ c', Src μ1 h b c' ∧ 0 ≤ c' ∧ c' ≤ c + k := by
  obtain ⟨a', c', h0, h1, rfl⟩ := d
  exact ⟨c', ⟨a', set_get hl⟩, h0, h1⟩
theorem Drawn.len {μ μ1 : Mu} {h : Nat} {b c : Int} {k : Nat} (d : Drawn μ μ1 h b c k) : μ1.length = μ.length := by
  obtain ⟨a', c', _, _, rfl⟩ := d
  exact List.length_set
theorem Drawn.low {μ μ1 : Mu} {h : Nat} {b c : Int} {k : Nat} (d : Drawn μ μ1 h b c k) : MuLow μ.length μ μ1 := by
  obtain ⟨a', c', _, _, rfl⟩ := d
  exact muLow_set ⟨trivial, trivial, trivial, trivial⟩
theorem Drawn.trans {μ μ1 μ2 : Mu} {h : Nat} {b c c1 : Int} {k l : Nat} (d : Drawn μ μ1 h b c k) (h1 : c1 ≤ c + k) (e : Drawn μ1 μ2 h b c1 l) : Drawn μ μ2 h b c (k + l) := by
  obtain ⟨a', c', x0, x1, rfl⟩ := d
  obtain ⟨a2, c2, y0, y1, rfl⟩ := e
  refine ⟨a2, c2, y0, by omega, ?_⟩
  rw [List.set_set]
theorem Drawn.mono {μ μ1 : Mu} {h : Nat} {b c : Int} {k l : Nat} (d : Drawn μ μ1 h b c k) (hl : k ≤ l) : Drawn μ μ1 h b c l := by
  obtain ⟨a', c', x0, x1, e⟩ := d
  exact ⟨a', c', x0, by omega, e⟩
theorem Drawn.zero {μ : Mu} {h : Nat} {b c : Int} (hs : Src μ h b c) (h0 : 0 ≤ c) : Drawn μ μ h b c 0 := by
  obtain ⟨a, e⟩ := hs
  refine ⟨a, c, h0, by omega, ?_⟩
  have hl := lt_of_get e
  apply List.ext_getElem?
  intro i
  by_cases hi : h = i
  · subst hi; rw [e, List.getElem?_set_self hl]
  · rw [List.getElem?_set_ne hi]
theorem smallS {n : Int} (h0 : 0 ≤ n) (h : n < 2 ^ 200) : n.natAbs.log2 < 9000 := Nat.lt_trans (log_lt 200 (by decide) (by omega)) (by decide)
theorem Src.lt {μ : Mu} {h : Nat} {b c : Int} (hs : Src μ h b c) : h < μ.length := by obtain ⟨a, e⟩ := hs; exact lt_of_get e
theorem Drawn.get {μ μ1 : Mu} {h : Nat} {b c : Int} {k : Nat} (d : Drawn μ μ1 h b c k) {i : Nat} (hi : i ≠ h) : μ1[i]? = μ[i]? := by
  obtain ⟨a', c', _, _, rfl⟩ := d
  rw [List.getElem?_set_ne (fun e => hi e.symm)]
theorem at3_0 {x y z : D} : atI [x, y, z] 0 = some x := rfl
theorem at3_1 {x y z : D} : atI [x, y, z] 1 = some y := rfl
theorem at3_2 {x y z : D} : atI [x, y, z] 2 = some z := rfl
theorem ix3_0 {x y z : D} : ixN [x, y, z].length 0 = some 0 := rfl
theorem ix3_1 {x y z : D} : ixN [x, y, z].length 1 = some 1 := rfl
theorem ix3_2 {x y z : D} : ixN [x, y, z].length 2 = some 2 := rfl
theorem set3_0 {x y z v : D} : [x, y, z].set 0 v = [v, y, z] := rfl
theorem set3_2 {x y z v : D} : [x, y, z].set 2 v = [x, y, v] := rfl
theorem at4_i {x0 x1 x2 x3 : D} {i : Int} (h0 : 0 ≤ i) (h1 : i < 4) : ∃ d, atI [x0, x1, x2, x3] i = some d ∧ (d = x0 ∨ d = x1 ∨ d = x2 ∨ d = x3) := by
  have : i = 0 ∨ i = 1 ∨ i = 2 ∨ i = 3 := by omega
  rcases this with rfl | rfl | rfl | rfl
  · exact ⟨x0, rfl, by simp⟩
  · exact ⟨x1, rfl, by simp⟩
  · exact ⟨x2, rfl, by simp⟩
  · exact ⟨x3, rfl, by simp⟩
theorem muLow_src {n : Nat} {μ : Mu} {h : Nat} {a b c : Int} : MuLow n μ (μ.set h (some (.lst [.int a, .int b, .int c]))) := muLow_set ⟨trivial, trivial, trivial, trivial⟩
/-! ### new objects behind those that were there -/
section
variable {σ : Mu} {x y z : Option MO} {l : Mu} {n : Nat}
theorem ag0 (h : σ.length = n) : (σ ++ x :: l)[n]? = some x := by rw [← h, List.getElem?_append_right (Nat.le_refl _), Nat.sub_self]; rfl
theorem ag1 (h : σ.length = n) : (σ ++ x :: y :: l)[n + 1]? = some y := by
  rw [← h, List.getElem?_append_right (Nat.le_succ _), show σ.length + 1 - σ.length = 1 by omega]; rfl
theorem ag2 (h : σ.length = n) : (σ ++ x :: y :: z :: l)[n + 2]? = some z := by
  rw [← h, List.getElem?_append_right (by omega), show σ.length + 2 - σ.length = 2 by omega]; rfl
theorem as0 (h : σ.length = n) : (σ ++ x :: l).set n z = σ ++ z :: l := by
  rw [← h, List.set_append_right _ _ (Nat.le_refl _), Nat.sub_self]; rfl
theorem as1 (h : σ.length = n) : (σ ++ x :: y :: l).set (n + 1) z = σ ++ x :: z :: l := by
  rw [← h, List.set_append_right _ _ (Nat.le_succ _), show σ.length + 1 - σ.length = 1 by omega]; rfl
theorem at0 (h : σ.length = n) : (σ ++ l).take n = σ := by rw [← h]; exact List.take_left
theorem muLow_app {μ : Mu} (h : MuLow n μ σ) (hl : σ.length = n) : MuLow n μ (σ ++ l) := fun i mo hi e => by
  rw [List.getElem?_append_left (by omega)] at e
  exact h i mo hi e
theorem Src.app {h : Nat} {b c : Int} (s : Src σ h b c) : Src (σ ++ l) h b c := by
  obtain ⟨a, e⟩ := s
  exact ⟨a, by rw [List.getElem?_append_left (lt_of_get e)]; exact e⟩
theorem Drawn.app {μ1 : Mu} {h k : Nat} {b c : Int} (d : Drawn (σ ++ l) μ1 h b c k) (hl : h < σ.length) : ∃ σ', μ1 = σ' ++ l ∧ Drawn σ σ' h b c k := by
  obtain ⟨a', c', h0, h1, rfl⟩ := d
  exact ⟨_, List.set_append_left _ _ hl, a', c', h0, h1, rfl⟩
end
end TX

/-! written by gen.py from the tree of the linked row -/
namespace TX
open PySem PySem.Spec PyProof.Rows L2 GxR DL
abbrev top (i : Nat) : Stmt := PySem.Challenge.pw_turnpicks_k45_bundles_compared.main.body.getD i (.Pass ⟨0, 0, 0, 0⟩)
abbrev s_P_is_integer : Stmt := top 7
abbrev N_P_is_integer : List Str := ["value"]
theorem sc_P_is_integer : FnScope N_P_is_integer ["value"] (defScope s_P_is_integer) := ⟨rfl, rfl, rfl, by decide +kernel, rfl, by decide +kernel, by decide +kernel⟩
abbrev s_P_are_kinds : Stmt := top 8
abbrev N_P_are_kinds : List Str := ["values", "kinds", "value"]
theorem sc_P_are_kinds : FnScope N_P_are_kinds ["values", "kinds"] (defScope s_P_are_kinds) := ⟨rfl, rfl, rfl, by decide +kernel, rfl, by decide +kernel, by decide +kernel⟩
abbrev s_P_kinds_in : Stmt := top 11
abbrev N_P_kinds_in : List Str := ["value"]
theorem sc_P_kinds_in : FnScope N_P_kinds_in ["value"] (defScope s_P_kinds_in) := ⟨rfl, rfl, rfl, by decide +kernel, rfl, by decide +kernel, by decide +kernel⟩
abbrev s_P_prefix_items : Stmt := top 14
abbrev N_P_prefix_items : List Str := ["bundle", "ranking", "kind"]
theorem sc_P_prefix_items : FnScope N_P_prefix_items ["bundle", "ranking"] (defScope s_P_prefix_items) := ⟨rfl, rfl, rfl, by decide +kernel, rfl, by decide +kernel, by decide +kernel⟩
abbrev s_L_cell_at : Stmt := top 18
abbrev N_L_cell_at : List Str := ["_law_script", "_law_k"]
theorem sc_L_cell_at : FnScope N_L_cell_at ["_law_script", "_law_k"] (defScope s_L_cell_at) := ⟨rfl, rfl, rfl, by decide +kernel, rfl, by decide +kernel, by decide +kernel⟩
abbrev s_L_source : Stmt := top 19
abbrev N_L_source : List Str := ["_law_cell"]
theorem sc_L_source : FnScope N_L_source ["_law_cell"] (defScope s_L_source) := ⟨rfl, rfl, rfl, by decide +kernel, rfl, by decide +kernel, by decide +kernel⟩
abbrev s_L_take : Stmt := top 20
abbrev N_L_take : List Str := ["_law_source_here", "_law_bound", "_law_digit", "_law_prime", "_law_mixed"]
theorem sc_L_take : FnScope N_L_take ["_law_source_here", "_law_bound"] (defScope s_L_take) := ⟨rfl, rfl, rfl, by decide +kernel, rfl, by decide +kernel, by decide +kernel⟩
abbrev s_L_word : Stmt := top 23
abbrev N_L_word : List Str := ["_law_order_here", "_law_mine", "_law_theirs", "_law_gaps", "_law_total", "_law_spot"]
theorem sc_L_word : FnScope N_L_word ["_law_order_here", "_law_mine", "_law_theirs"] (defScope s_L_word) := ⟨rfl, rfl, rfl, by decide +kernel, rfl, by decide +kernel, by decide +kernel⟩
abbrev s_P_is_bundle : Stmt := top 9
abbrev N_P_is_bundle : List Str := ["value", "kinds"]
theorem sc_P_is_bundle : FnScope N_P_is_bundle ["value", "kinds"] (defScope s_P_is_bundle) := ⟨rfl, rfl, rfl, by decide +kernel, rfl, by decide +kernel, by decide +kernel⟩
abbrev s_P_is_list : Stmt := top 10
abbrev N_P_is_list : List Str := ["value", "kinds"]
theorem sc_P_is_list : FnScope N_P_is_list ["value", "kinds"] (defScope s_P_is_list) := ⟨rfl, rfl, rfl, by decide +kernel, rfl, by decide +kernel, by decide +kernel⟩
abbrev s_L_order : Stmt := top 21
abbrev N_L_order : List Str := ["_law_source_here", "_law_size", "_law_pool", "_law_drawn"]
theorem sc_L_order : FnScope N_L_order ["_law_source_here", "_law_size"] (defScope s_L_order) := ⟨rfl, rfl, rfl, by decide +kernel, rfl, by decide +kernel, by decide +kernel⟩
abbrev s_L_share : Stmt := top 22
abbrev N_L_share : List Str := ["_law_source_here", "_law_size", "_law_top", "_law_turn"]
theorem sc_L_share : FnScope N_L_share ["_law_source_here", "_law_size", "_law_top"] (defScope s_L_share) := ⟨rfl, rfl, rfl, by decide +kernel, rfl, by decide +kernel, by decide +kernel⟩
abbrev s_L_moved : Stmt := top 24
abbrev N_L_moved : List Str := ["_law_source_here", "_law_line", "_law_found", "_law_step", "_law_spot"]
theorem sc_L_moved : FnScope N_L_moved ["_law_source_here", "_law_line"] (defScope s_L_moved) := ⟨rfl, rfl, rfl, by decide +kernel, rfl, by decide +kernel, by decide +kernel⟩
abbrev s_P_check_ranking : Stmt := top 12
abbrev N_P_check_ranking : List Str := ["ranking", "kinds"]
theorem sc_P_check_ranking : FnScope N_P_check_ranking ["ranking", "kinds"] (defScope s_P_check_ranking) := ⟨rfl, rfl, rfl, by decide +kernel, rfl, by decide +kernel, by decide +kernel⟩
abbrev s_P_compare : Stmt := top 16
abbrev N_P_compare : List Str := ["ranking", "one", "other", "index", "bundle", "gains", "many", "its"]
theorem sc_P_compare : FnScope N_P_compare ["ranking", "one", "other"] (defScope s_P_compare) := ⟨rfl, rfl, rfl, by decide +kernel, rfl, by decide +kernel, by decide +kernel⟩
abbrev s_P_law : Stmt := top 25
abbrev N_P_law : List Str := ["_law_script", "_law_cell", "_law_source_here", "_law_size", "_law_order_here", "_law_mine", "_law_turn", "_law_theirs", "_law_word_here", "_law_back", "_law_part"]
theorem sc_P_law : FnScope N_P_law ["_law_script"] (defScope s_P_law) := ⟨rfl, rfl, rfl, by decide +kernel, rfl, by decide +kernel, by decide +kernel⟩
/-! ### meanings -/
noncomputable def g_P_is_integer : Sl → CS := (sRet (eAnd (eUn (oIsi "int") (eVar 0)) (eNot (eUn (oIsi "bool") (eVar 0)))))
noncomputable def d_P_is_integer : List D → Cm D := denC 1 g_P_is_integer
noncomputable def g_P_are_kinds : Sl → CS := (sSeq (sFor (iSeq (eVar 0)) (dgName 2) (sIf (tOo (tNt (tTru (eUn (oIsi "int") (eVar 2)))) (tOo (tNt (tBl (eChain oLe oLt (eK (.int 0)) (eVar 2) (eVar 1)))) (tOo (tBl (eOp2 oIsB (eVar 2) (eK (.bl true)))) (tBl (eOp2 oIsB (eVar 2) (eK (.bl false))))))) (sRet (eK (.bl false))) sNx)) (sRet (eK (.bl true))))
noncomputable def d_P_are_kinds : List D → Cm D := denC 3 g_P_are_kinds
noncomputable def g_P_kinds_in : Sl → CS := (sRet (eIf (tTru (eUn (oIsi "tuple") (eVar 0))) (eCB oMin2 (aCons (eCB oLen (aCons (eVar 0) aNil)) (aCons (eK (.int 60)) aNil))) (eK (.int 0))))
noncomputable def d_P_kinds_in : List D → Cm D := denC 1 g_P_kinds_in
noncomputable def g_P_prefix_items : Sl → CS := (sRet (eLstAcc oLs (eLc oLs (iSeq (eVar 1)) (dgName 2) tYesD (eOp2 oIx (eVar 0) (eVar 2)) [2])))
noncomputable def d_P_prefix_items : List D → Cm D := denC 3 g_P_prefix_items
noncomputable def g_L_cell_at : Sl → CS := (sRet (eIf (tBl (eOp2 oLt (eVar 1) (eCB oLen (aCons (eVar 0) aNil)))) (eOp2 oIx (eVar 0) (eVar 1)) (eK (.int 0))))
noncomputable def d_L_cell_at : List D → Cm D := denC 2 g_L_cell_at
noncomputable def g_L_source : Sl → CS := (sRet (eCB oMut (aCons (eOp2 oMulX (eVar 0) (eCB oIntOf (aCons (eOp2 oGe (eVar 0) (eOp2 oPow (eK (.int 10)) (eK (.int 18)))) aNil))) (aCons (eOp2 oMod (eVar 0) (eK (.int 2147483647))) (aCons (eK (.int 0)) aNil)))))
noncomputable def d_L_source : List D → Cm D := denK 1 g_L_source
noncomputable def g_L_take : Sl → CS := (sSeq (sIf (tBl (eOp2 oGt (eOp2 oIx (eVar 0) (eK (.int 0))) (eK (.int 0)))) (sSeq (sSet 2 (eOp2 oMod (eOp2 oIx (eVar 0) (eK (.int 0))) (eVar 1))) (sSeq (sSetIx (eOp2 oFdiv (eOp2 oIx (eVar 0) (eK (.int 0))) (eVar 1)) (eVar 0) (eK (.int 0))) (sRet (eVar 2)))) sNx) (sSeq (sSetIx (eOp2 oAdd (eOp2 oIx (eVar 0) (eK (.int 2))) (eK (.int 1))) (eVar 0) (eK (.int 2))) (sSeq (sSet 3 (eOp2 oIx (eCB oLst (aCons (eK (.int 2147483629)) (aCons (eK (.int 2147483587)) (aCons (eK (.int 2147483579)) (aCons (eK (.int 2147483563)) aNil))))) (eOp2 oMod (eOp2 oIx (eVar 0) (eK (.int 2))) (eK (.int 4))))) (sSeq (sSet 4 (eOp2 oMod (eOp2 oPow (eOp2 oAdd (eOp2 oAdd (eOp2 oIx (eVar 0) (eK (.int 1))) (eOp2 oMul (eK (.int 6007)) (eOp2 oIx (eVar 0) (eK (.int 2))))) (eK (.int 29))) (eK (.int 3))) (eVar 3))) (sSeq (sSet 4 (eOp2 oMod (eOp2 oMul (eOp2 oAdd (eVar 4) (eOp2 oIx (eVar 0) (eK (.int 2)))) (eOp2 oAdd (eOp2 oFdiv (eVar 4) (eK (.int 1021))) (eK (.int 50021)))) (eVar 3))) (sSeq (sSet 4 (eOp2 oMod (eOp2 oMul (eVar 4) (eOp2 oAdd (eOp2 oAdd (eOp2 oFdiv (eVar 4) (eK (.int 887))) (eOp2 oMul (eK (.int 31)) (eOp2 oIx (eVar 0) (eK (.int 2))))) (eK (.int 3)))) (eVar 3))) (sRet (eOp2 oMod (eOp2 oFdiv (eVar 4) (eK (.int 13))) (eVar 1)))))))))
noncomputable def d_L_take : List D → Cm D := denC 5 g_L_take
noncomputable def g_L_word : Sl → CS := (sSeq (sPar 3 4 (aCons (eCB oMut (aCons (eK (.int 0)) aNil)) (aCons (eK (.int 0)) aNil))) (sSeq (sFor (iSeq (eVar 0)) (dgName 5) (sSeq (sSet 4 (eOp2 oSub (eOp2 oAdd (eVar 4) (eOp2 oIx (eVar 1) (eVar 5))) (eOp2 oIx (eVar 2) (eVar 5)))) (sDrop (eBM ckL oAppend (eVar 3) (aCons (eVar 4) aNil))))) (sSeq (sIf (tBl (eOp2 oEq (eVar 1) (eVar 2))) (sRet (eK (.str "equal"))) sNx) (sSeq (sIf (tBl (eOp2 oGe (eCB oMinL (aCons (eVar 3) aNil)) (eK (.int 0)))) (sRet (eK (.str "better"))) sNx) (sRet (eIf (tBl (eOp2 oLe (eCB oMaxL (aCons (eVar 3) aNil)) (eK (.int 0)))) (eK (.str "worse")) (eK (.str "unclear"))))))))
noncomputable def d_L_word : List D → Cm D := denC 6 g_L_word
noncomputable def g_P_is_bundle : Sl → CS := (sSeq (sIf (tOo (tNt (tTru (eUn (oIsi "tuple") (eVar 0)))) (tBl (eOp2 oNe (eCB oLen (aCons (eVar 0) aNil)) (eVar 1)))) (sRet (eK (.bl false))) sNx) (sRet (eAll (eVar 0) [] (qAnd (qCall 1 (qCons (fun ds => ds[0]?) (fun _ => some [])) (qAnd (qIsi "int" (fun ds => ds[0]?)) (qNot (qIsi "bool" (fun ds => ds[0]?))))) (qI2 (fun i j => some (.bl ((fun i j => decide (i ≥ j)) i j))) (fun ds => ds[0]?) (fun _ => some (.int 0)))))))
noncomputable def d_P_is_bundle : List D → Cm D := denC 2 g_P_is_bundle
noncomputable def g_P_is_list : Sl → CS := (sSeq (sIf (tOo (tNt (tTru (eUn (oIsi "tuple") (eVar 0)))) (tNt (tTru (eCB (oCall 2 d_P_are_kinds) (aCons (eVar 0) (aCons (eVar 1) aNil)))))) (sRet (eK (.bl false))) sNx) (sRet (eOp2 oEq (eCB (oSortA oLs) (aCons (eVar 0) aNil)) (eLstRg oLs (eVar 1)))))
noncomputable def d_P_is_list : List D → Cm D := denC 2 g_P_is_list
noncomputable def g_L_order : Sl → CS := (sSeq (sPar 2 3 (aCons (eLstRg oMut (eVar 1)) (aCons (eCB oMut aNil) aNil))) (sSeq (sWhile (tBl (eOp2 oNe (eVar 2) (eCB oLst aNil))) (sDrop (eBM ckL oAppend (eVar 3) (aCons (eBM ckL oPopAt (eVar 2) (aCons (eCB (oCall 2 d_L_take) (aCons (eVar 0) (aCons (eCB oLen (aCons (eVar 2) aNil)) aNil))) aNil)) aNil)))) (sRet (eCB oTupOf (aCons (eVar 3) aNil)))))
noncomputable def d_L_order : List D → Cm D := denC 4 g_L_order
noncomputable def g_L_share : Sl → CS := (sRet (eCB oTupOf (aCons (eLc oLs (iRange1 (aCons (eVar 1) aNil)) (dgName 3) tYesD (eOp2 oMul (eCB (oCall 2 d_L_take) (aCons (eVar 0) (aCons (eVar 2) aNil))) (eCB (oCall 2 d_L_take) (aCons (eVar 0) (aCons (eK (.int 2)) aNil)))) [3]) aNil)))
noncomputable def d_L_share : List D → Cm D := denC 4 g_L_share
noncomputable def g_L_moved : Sl → CS := (sSeq (sSet 2 (eCB (oListOf oMut) (aCons (eVar 1) aNil))) (sSeq (sIf (tBl (eOp2 oEq (eVar 2) (eCB oLst aNil))) (sRet (eCB oTup aNil)) sNx) (sSeq (sFor (iSeq (eSl (eSl (eCB oLst (aCons (eUn oNeg (eK (.int 1))) (aCons (eK (.int 1)) aNil))) (pSome (eCB (oCall 2 d_L_take) (aCons (eVar 0) (aCons (eK (.int 2)) aNil)))) pNo) pNo (pSome (eOp2 oAdd (eK (.int 1)) (eCB (oCall 2 d_L_take) (aCons (eVar 0) (aCons (eK (.int 2)) aNil))))))) (dgName 3) (sSeq (sSet 4 (eCB (oCall 2 d_L_take) (aCons (eVar 0) (aCons (eCB oLen (aCons (eVar 2) aNil)) aNil)))) (sSetIx (eCB oMax2 (aCons (eK (.int 0)) (aCons (eOp2 oAdd (eOp2 oIx (eVar 2) (eVar 4)) (eVar 3)) aNil))) (eVar 2) (eVar 4)))) (sRet (eCB oTupOf (aCons (eVar 2) aNil))))))
noncomputable def d_L_moved : List D → Cm D := denC 5 g_L_moved
noncomputable def g_P_check_ranking : Sl → CS := (sIf (tNt (tTru (eCB (oCall 2 d_P_is_list) (aCons (eVar 0) (aCons (eVar 1) aNil))))) sNo sNx)
noncomputable def d_P_check_ranking : List D → Cm D := denC 2 g_P_check_ranking
noncomputable def g_P_compare : Sl → CS := (sSeq (sDrop (eCB (oCall 2 d_P_check_ranking) (aCons (eVar 0) (aCons (eCB (oCall 1 d_P_kinds_in) (aCons (eVar 0) aNil)) aNil)))) (sSeq (sFor (iEn 0 (eCB oTup (aCons (eVar 1) (aCons (eVar 2) aNil)))) (dgTup (dgCons (dgName 3) (dgCons (dgName 4) dgNil)) 2) (sIf (tNt (tTru (eCB (oCall 2 d_P_is_bundle) (aCons (eVar 4) (aCons (eCB oLen (aCons (eVar 0) aNil)) aNil))))) sNo sNx)) (sSeq (sIf (tBl (eOp2 oEq (eVar 1) (eVar 2))) (sRet (eK (.str "equal"))) sNx) (sSeq (sSet 5 (eLc oLs (iZp (eCB (oCall 2 d_P_prefix_items) (aCons (eVar 1) (aCons (eVar 0) aNil))) (eCB (oCall 2 d_P_prefix_items) (aCons (eVar 2) (aCons (eVar 0) aNil)))) (dgTup (dgCons (dgName 6) (dgCons (dgName 7) dgNil)) 2) tYesD (eOp2 oSub (eVar 6) (eVar 7)) [6, 7])) (sSeq (sIf (tBl (eOp2 oGe (eCB oMinL (aCons (eVar 5) aNil)) (eK (.int 0)))) (sRet (eK (.str "better"))) sNx) (sSeq (sIf (tBl (eOp2 oLe (eCB oMaxL (aCons (eVar 5) aNil)) (eK (.int 0)))) (sRet (eK (.str "worse"))) sNx) (sRet (eK (.str "unclear")))))))))
noncomputable def d_P_compare : List D → Cm D := denC 8 g_P_compare
noncomputable def g_P_law : Sl → CS := (sSeq (sFor (iSeq (eOp2 oAdd (eCB oLst (aCons (eCB (oCall 2 d_L_cell_at) (aCons (eVar 0) (aCons (eK (.int 0)) aNil))) aNil)) (eSl (eVar 0) (pSome (eK (.int 1))) (pSome (eK (.int 8)))))) (dgName 1) (sSeq (sSet 2 (eCB (oCall 1 d_L_source) (aCons (eVar 1) aNil))) (sSeq (sSet 3 (eOp2 oIx (eCB oLst (aCons (eCB (oCall 2 d_L_take) (aCons (eVar 2) (aCons (eK (.int 7)) aNil))) (aCons (eCB (oCall 2 d_L_take) (aCons (eVar 2) (aCons (eK (.int 7)) aNil))) (aCons (eCB (oCall 2 d_L_take) (aCons (eVar 2) (aCons (eK (.int 7)) aNil))) (aCons (eK (.int 60)) aNil))))) (eCB (oCall 2 d_L_take) (aCons (eVar 2) (aCons (eK (.int 4)) aNil))))) (sSeq (sSet 4 (eCB (oCall 2 d_L_order) (aCons (eVar 2) (aCons (eVar 3) aNil)))) (sSeq (sSet 5 (eCB (oCall 3 d_L_share) (aCons (eVar 2) (aCons (eVar 3) (aCons (eOp2 oIx (eCB oLst (aCons (eK (.int 2)) (aCons (eK (.int 4)) (aCons (eOp2 oPow (eK (.int 10)) (eK (.int 9))) aNil)))) (eCB (oCall 2 d_L_take) (aCons (eVar 2) (aCons (eK (.int 3)) aNil)))) aNil))))) (sSeq (sIf (tBl (eOp2 oEq (eCB (oCall 2 d_L_take) (aCons (eVar 2) (aCons (eK (.int 4)) aNil))) (eK (.int 0)))) (sSet 5 (eCB oTupOf (aCons (eLc oLs (iSeq (eVar 5)) (dgName 10) tYesD (eOp2 oAdd (eOp2 oMul (eVar 10) (eOp2 oPow (eK (.int 10)) (eK (.int 27)))) (eCB (oCall 2 d_L_take) (aCons (eVar 2) (aCons (eOp2 oPow (eK (.int 10)) (eK (.int 9))) aNil)))) [10]) aNil))) sNx) (sFor (iRange1 (aCons (eK (.int 4)) aNil)) (dgName 6) (sSeq (sSet 7 (eOp2 oIx (eCB oLst (aCons (eCB (oCall 3 d_L_share) (aCons (eVar 2) (aCons (eVar 3) (aCons (eK (.int 4)) aNil)))) (aCons (eVar 5) (aCons (eCB (oCall 2 d_L_moved) (aCons (eVar 2) (aCons (eVar 5) aNil))) (aCons (eCB (oCall 2 d_L_moved) (aCons (eVar 2) (aCons (eVar 5) aNil))) aNil))))) (eVar 6))) (sSeq (sSet 8 (eCB (oCall 3 d_L_word) (aCons (eVar 4) (aCons (eVar 5) (aCons (eVar 7) aNil))))) (sSeq (sSet 9 (eOp2 oDget (eCB (oDic [.inr "equal", .inr "better", .inr "worse", .inr "unclear"]) (aCons (eK (.str "equal")) (aCons (eK (.str "worse")) (aCons (eK (.str "better")) (aCons (eK (.str "unclear")) aNil))))) (eVar 8))) (sIf (tOo (tBl (eOp2 oNe (eCB (oCall 3 d_P_compare) (aCons (eVar 4) (aCons (eVar 5) (aCons (eVar 7) aNil)))) (eVar 8))) (tBl (eOp2 oNe (eKw 3 d_P_compare [2, 1, 0] (aCons (eVar 5) (aCons (eVar 7) (aCons (eVar 4) aNil)))) (eVar 9)))) (sRet (eK (.bl false))) sNx))))))))))) (sRet (eK (.bl true))))
noncomputable def d_P_law : List D → Cm D := denC 11 g_P_law
/-! ### what the top has written -/
structure Ad where
  a_P_is_integer : Addr
  f_P_is_integer : FuncData
  c_P_is_integer : Value
  a_P_are_kinds : Addr
  f_P_are_kinds : FuncData
  c_P_are_kinds : Value
  a_P_kinds_in : Addr
  f_P_kinds_in : FuncData
  c_P_kinds_in : Value
  a_P_prefix_items : Addr
  f_P_prefix_items : FuncData
  c_P_prefix_items : Value
  a_L_cell_at : Addr
  f_L_cell_at : FuncData
  c_L_cell_at : Value
  a_L_source : Addr
  f_L_source : FuncData
  c_L_source : Value
  a_L_take : Addr
  f_L_take : FuncData
  c_L_take : Value
  a_L_word : Addr
  f_L_word : FuncData
  c_L_word : Value
  a_P_is_bundle : Addr
  f_P_is_bundle : FuncData
  c_P_is_bundle : Value
  a_P_is_list : Addr
  f_P_is_list : FuncData
  c_P_is_list : Value
  a_L_order : Addr
  f_L_order : FuncData
  c_L_order : Value
  a_L_share : Addr
  f_L_share : FuncData
  c_L_share : Value
  a_L_moved : Addr
  f_L_moved : FuncData
  c_L_moved : Value
  a_P_check_ranking : Addr
  f_P_check_ranking : FuncData
  c_P_check_ranking : Value
  a_P_compare : Addr
  f_P_compare : FuncData
  c_P_compare : Value
  a_P_law : Addr
  f_P_law : FuncData
  c_P_law : Value
  t_P_is_bundle : Addr
  o_P_is_bundle : Addr
  v_MOST_KINDS : Tok
structure Txt (K : PySem.W.Frag) (w : World) (mg : Str → Option Value) (base : Heap) (tb : Addr → Prop) (A : Ad) : Prop where
  F_P_is_integer : FunC K mg "is_integer" s_P_is_integer A.a_P_is_integer A.f_P_is_integer A.c_P_is_integer
  B_P_is_integer : Binds K A.f_P_is_integer ["value"] []
  F_P_are_kinds : FunC K mg "are_kinds" s_P_are_kinds A.a_P_are_kinds A.f_P_are_kinds A.c_P_are_kinds
  B_P_are_kinds : Binds K A.f_P_are_kinds ["values", "kinds"] []
  F_P_kinds_in : FunC K mg "kinds_in" s_P_kinds_in A.a_P_kinds_in A.f_P_kinds_in A.c_P_kinds_in
  B_P_kinds_in : Binds K A.f_P_kinds_in ["value"] []
  F_P_prefix_items : FunC K mg "prefix_items" s_P_prefix_items A.a_P_prefix_items A.f_P_prefix_items A.c_P_prefix_items
  B_P_prefix_items : Binds K A.f_P_prefix_items ["bundle", "ranking"] []
  F_L_cell_at : FunC K mg "_law_cell_at" s_L_cell_at A.a_L_cell_at A.f_L_cell_at A.c_L_cell_at
  B_L_cell_at : Binds K A.f_L_cell_at ["_law_script", "_law_k"] []
  F_L_source : FunC K mg "_law_source" s_L_source A.a_L_source A.f_L_source A.c_L_source
  B_L_source : Binds K A.f_L_source ["_law_cell"] []
  F_L_take : FunC K mg "_law_take" s_L_take A.a_L_take A.f_L_take A.c_L_take
  B_L_take : Binds K A.f_L_take ["_law_source_here", "_law_bound"] []
  F_L_word : FunC K mg "_law_word" s_L_word A.a_L_word A.f_L_word A.c_L_word
  B_L_word : Binds K A.f_L_word ["_law_order_here", "_law_mine", "_law_theirs"] []
  F_P_is_bundle : FunC K mg "is_bundle" s_P_is_bundle A.a_P_is_bundle A.f_P_is_bundle A.c_P_is_bundle
  B_P_is_bundle : Binds K A.f_P_is_bundle ["value", "kinds"] []
  F_P_is_list : FunC K mg "is_list" s_P_is_list A.a_P_is_list A.f_P_is_list A.c_P_is_list
  B_P_is_list : Binds K A.f_P_is_list ["value", "kinds"] []
  F_L_order : FunC K mg "_law_order" s_L_order A.a_L_order A.f_L_order A.c_L_order
  B_L_order : Binds K A.f_L_order ["_law_source_here", "_law_size"] []
  F_L_share : FunC K mg "_law_share" s_L_share A.a_L_share A.f_L_share A.c_L_share
  B_L_share : Binds K A.f_L_share ["_law_source_here", "_law_size", "_law_top"] []
  F_L_moved : FunC K mg "_law_moved" s_L_moved A.a_L_moved A.f_L_moved A.c_L_moved
  B_L_moved : Binds K A.f_L_moved ["_law_source_here", "_law_line"] []
  F_P_check_ranking : FunC K mg "check_ranking" s_P_check_ranking A.a_P_check_ranking A.f_P_check_ranking A.c_P_check_ranking
  B_P_check_ranking : Binds K A.f_P_check_ranking ["ranking", "kinds"] []
  F_P_compare : FunC K mg "compare" s_P_compare A.a_P_compare A.f_P_compare A.c_P_compare
  B_P_compare : Binds K A.f_P_compare ["ranking", "one", "other"] []
  F_P_law : FunC K mg "law" s_P_law A.a_P_law A.f_P_law A.c_P_law
  B_P_law : Binds K A.f_P_law ["_law_script"] []
  K_P_compare_210 : ∀ (s : Shared) (ws : List Value), K.In s.heap → ws.length = (["other", "one", "ranking"] : List Str).length → BindsTo s A.f_P_compare ⟨[], (["other", "one", "ranking"] : List Str).zip ws⟩ ((["ranking", "one", "other"] : List Str).zip (ord [2, 1, 0] ws))
  m_all : mg "all" = none
  m_bool : mg "bool" = none
  m_enumerate : mg "enumerate" = none
  m_int : mg "int" = none
  m_isinstance : mg "isinstance" = none
  m_len : mg "len" = none
  m_list : mg "list" = none
  m_max : mg "max" = none
  m_min : mg "min" = none
  m_range : mg "range" = none
  m_sorted : mg "sorted" = none
  m_tuple : mg "tuple" = none
  m_zip : mg "zip" = none
  i_accumulate : mg "accumulate" = some (.type "itertools.accumulate")
  g_MOST_KINDS : mg "MOST_KINDS" = some (.int 60 A.v_MOST_KINDS)
  C_P_is_bundle : A.c_P_is_bundle = .ref A.o_P_is_bundle
  TB_P_is_bundle : TabB base mg A.o_P_is_bundle A.t_P_is_bundle
  tb_P_is_bundle : tb A.t_P_is_bundle
section
variable {P : Program} {w : World} {K : PySem.W.Frag} {mg : Str → Option Value} {base : Heap} {tb : Addr → Prop} {A : Ad}
set_option maxHeartbeats 4000000 in
theorem k_P_is_integer (T : Txt K w mg base tb A) : FnG P w K mg base 1 A.a_P_is_integer A.f_P_is_integer ["value"] (spD ⟨K, mg, tb⟩ 1 d_P_is_integer) := fn_C T.F_P_is_integer sc_P_is_integer fun Ar outer s H E hr hG => by
  have S := sc_P_is_integer
  have tk : Takes (cxOf (L2.CX P w) P w K mg base N_P_is_integer "is_integer" (defScope s_P_is_integer) A.a_P_is_integer A.c_P_is_integer Ar outer s H E) (fun c d _ H2 => E c d H2) := takes_of rfl rfl rfl rfl
  exact (dss_one (ds_ret (de_and (de_isi (T := "int") rfl T.m_isinstance rfl T.m_int bt_int (dv 0)) (de_one_and (de_not (de_isi (T := "bool") rfl T.m_isinstance rfl T.m_bool bt_bool (dv 0)))))))
set_option maxHeartbeats 4000000 in
theorem k_P_are_kinds (T : Txt K w mg base tb A) : FnG P w K mg base 1 A.a_P_are_kinds A.f_P_are_kinds ["values", "kinds"] (spD ⟨K, mg, tb⟩ 2 d_P_are_kinds) := fn_C T.F_P_are_kinds sc_P_are_kinds fun Ar outer s H E hr hG => by
  have S := sc_P_are_kinds
  have tk : Takes (cxOf (L2.CX P w) P w K mg base N_P_are_kinds "are_kinds" (defScope s_P_are_kinds) A.a_P_are_kinds A.c_P_are_kinds Ar outer s H E) (fun c d _ H2 => E c d H2) := takes_of rfl rfl rfl rfl
  exact (dss_cons (ds_for (passes_of rfl) rfl (di_seq (dv 0)) (dg_name (i := 2) S.nd rfl (Or.inl rfl)) (dss_one (ds_if (PW.pt (dw_or (dt_not (dt_truth (de_isi (T := "int") rfl T.m_isinstance rfl T.m_int bt_int (dv 2)) (fun _ => rfl))) (dw_or (dt_not (dt_chain opLe opLt sem_ci sem_ci de_int (dv 2) (dv 1))) (dw_or (dt_cmp op_isBX sem_isB (dv 2) de_bl rfl) (dw_one_or (dt_cmp op_isBX sem_isB (dv 2) de_bl rfl)))))) (dss_one (ds_ret de_bl)) dss_nil))) (dss_one (ds_ret de_bl)))
set_option maxHeartbeats 4000000 in
theorem k_P_kinds_in (T : Txt K w mg base tb A) : FnG P w K mg base 1 A.a_P_kinds_in A.f_P_kinds_in ["value"] (spD ⟨K, mg, tb⟩ 1 d_P_kinds_in) := fn_C T.F_P_kinds_in sc_P_kinds_in fun Ar outer s H E hr hG => by
  have S := sc_P_kinds_in
  have tk : Takes (cxOf (L2.CX P w) P w K mg base N_P_kinds_in "kinds_in" (defScope s_P_kinds_in) A.a_P_kinds_in A.c_P_kinds_in Ar outer s H E) (fun c d _ H2 => E c d H2) := takes_of rfl rfl rfl rfl
  exact (dss_one (ds_ret (de_ifExp (dt_truth (de_isi (T := "tuple") rfl T.m_isinstance rfl T.m_tuple bt_tuple (dv 0)) (fun _ => rfl)) (de_callB (call_min2 rfl) sem_min2 rfl T.m_min bt_min (da_cons (de_callB call_len sem_len rfl T.m_len bt_len (da_cons (dv 0) da_nil)) (da_cons (de_globI rfl T.g_MOST_KINDS) da_nil))) de_int)))
set_option maxHeartbeats 4000000 in
theorem k_P_prefix_items (T : Txt K w mg base tb A) : FnG P w K mg base 1 A.a_P_prefix_items A.f_P_prefix_items ["bundle", "ranking"] (spD ⟨K, mg, tb⟩ 2 d_P_prefix_items) := fn_C T.F_P_prefix_items sc_P_prefix_items fun Ar outer s H E hr hG => by
  have S := sc_P_prefix_items
  have tk : Takes (cxOf (L2.CX P w) P w K mg base N_P_prefix_items "prefix_items" (defScope s_P_prefix_items) A.a_P_prefix_items A.c_P_prefix_items Ar outer s H E) (fun c d _ H2 => E c d H2) := takes_of rfl rfl rfl rfl
  exact (dss_one (ds_ret (de_listAcc mk_ls rfl rfl T.m_list rfl T.i_accumulate (de_lc (own := [("kind", 2)]) mkf_ls (by decide) rfl S.nd (di_seq (dv 1)) (blkOk_by (N := N_P_prefix_items) (sc := defScope s_P_prefix_items) (by decide +kernel)) (fun _ _ _ _ _ => (dg_name (i := 2) S.nd rfl (Or.inl rfl))) (fun _ _ _ _ _ => dts_nil) (fun _ _ _ _ _ => (de_ixD (dv 0) (dv 2)))))))
set_option maxHeartbeats 4000000 in
theorem k_L_cell_at (T : Txt K w mg base tb A) : FnG P w K mg base 1 A.a_L_cell_at A.f_L_cell_at ["_law_script", "_law_k"] (spD ⟨K, mg, tb⟩ 2 d_L_cell_at) := fn_C T.F_L_cell_at sc_L_cell_at fun Ar outer s H E hr hG => by
  have S := sc_L_cell_at
  have tk : Takes (cxOf (L2.CX P w) P w K mg base N_L_cell_at "_law_cell_at" (defScope s_L_cell_at) A.a_L_cell_at A.c_L_cell_at Ar outer s H E) (fun c d _ H2 => E c d H2) := takes_of rfl rfl rfl rfl
  exact (dss_one (ds_ret (de_ifExp (dt_cmp opLt sem_ci (dv 1) (de_callB call_len sem_len rfl T.m_len bt_len (da_cons (dv 0) da_nil)) rfl) (de_ixD (dv 0) (dv 1)) de_int)))
set_option maxHeartbeats 4000000 in
theorem k_L_source (T : Txt K w mg base tb A) : FnG P w K mg base 1 A.a_L_source A.f_L_source ["_law_cell"] (spD ⟨K, mg, tb⟩ 1 d_L_source) := fn_K T.F_L_source sc_L_source fun Ar outer s H E hr hG => by
  have S := sc_L_source
  have tk : Takes (cxOf (L2.CX P w) P w K mg base N_L_source "_law_source" (defScope s_L_source) A.a_L_source A.c_L_source Ar outer s H E) (fun c d _ H2 => E c d H2) := takes_of rfl rfl rfl rfl
  exact (dss_one (ds_ret (de_lstM (pe_lst (da_cons (de_mulX (dv 0) (de_callTy call_int1 sem_int rfl T.m_int bt_int (da_cons (de_cmp opGe sem_ci (dv 0) (de_pow de_int de_int) rfl) da_nil))) (da_cons (de_mod (dv 0) de_int) (da_cons de_int da_nil)))))))
set_option maxHeartbeats 4000000 in
theorem k_L_take (T : Txt K w mg base tb A) : FnG P w K mg base 1 A.a_L_take A.f_L_take ["_law_source_here", "_law_bound"] (spD ⟨K, mg, tb⟩ 2 d_L_take) := fn_C T.F_L_take sc_L_take fun Ar outer s H E hr hG => by
  have S := sc_L_take
  have tk : Takes (cxOf (L2.CX P w) P w K mg base N_L_take "_law_take" (defScope s_L_take) A.a_L_take A.c_L_take Ar outer s H E) (fun c d _ H2 => E c d H2) := takes_of rfl rfl rfl rfl
  exact (dss_cons (ds_if (dt_cmp opGt sem_ci (de_ixD (dv 0) de_int) de_int rfl) (dss_cons (ds_set (i := 2) S.nd rfl (Or.inl rfl) (de_mod (de_ixD (dv 0) de_int) (dv 1))) (dss_cons (ds_setIx (de_fdiv (de_ixD (dv 0) de_int) (dv 1)) (dv 0) de_int) (dss_one (ds_ret (dv 2))))) dss_nil) (dss_cons (ds_setIx (de_add (de_ixD (dv 0) de_int) de_int) (dv 0) de_int) (dss_cons (ds_set (i := 3) S.nd rfl (Or.inl rfl) (de_ixD (de_lst (pe_lst (da_cons de_int (da_cons de_int (da_cons de_int (da_cons de_int da_nil)))))) (de_mod (de_ixD (dv 0) de_int) de_int))) (dss_cons (ds_set (i := 4) S.nd rfl (Or.inl rfl) (de_mod (de_pow (de_add (de_add (de_ixD (dv 0) de_int) (de_mul de_int (de_ixD (dv 0) de_int))) de_int) de_int) (dv 3))) (dss_cons (ds_set (i := 4) S.nd rfl (Or.inl rfl) (de_mod (de_mul (de_add (dv 4) (de_ixD (dv 0) de_int)) (de_add (de_fdiv (dv 4) de_int) de_int)) (dv 3))) (dss_cons (ds_set (i := 4) S.nd rfl (Or.inl rfl) (de_mod (de_mul (dv 4) (de_add (de_add (de_fdiv (dv 4) de_int) (de_mul de_int (de_ixD (dv 0) de_int))) de_int)) (dv 3))) (dss_one (ds_ret (de_mod (de_fdiv (dv 4) de_int) (dv 1))))))))))
set_option maxHeartbeats 4000000 in
theorem k_L_word (T : Txt K w mg base tb A) : FnG P w K mg base 1 A.a_L_word A.f_L_word ["_law_order_here", "_law_mine", "_law_theirs"] (spD ⟨K, mg, tb⟩ 3 d_L_word) := fn_C T.F_L_word sc_L_word fun Ar outer s H E hr hG => by
  have S := sc_L_word
  have tk : Takes (cxOf (L2.CX P w) P w K mg base N_L_word "_law_word" (defScope s_L_word) A.a_L_word A.c_L_word Ar outer s H E) (fun c d _ H2 => E c d H2) := takes_of rfl rfl rfl rfl
  exact (dss_cons (ds_par (i := 3) (j := 4) rfl S.nd rfl rfl (by decide) rfl rfl (da_cons (de_lstM (pe_lst (da_cons de_int da_nil))) (da_cons de_int da_nil))) (dss_cons (ds_for (passes_of rfl) rfl (di_seq (dv 0)) (dg_name (i := 5) S.nd rfl (Or.inl rfl)) (dss_cons (ds_set (i := 4) S.nd rfl (Or.inl rfl) (de_sub (de_add (dv 4) (de_ixD (dv 1) (dv 5))) (de_ixD (dv 2) (dv 5)))) (dss_one (ds_expr (de_bm PySem.F.plainAttrs_list PySem.F.slot_list_append PySem.F.type_list_append mt_append ckL_ok sem_append (dv 3) (da_cons (dv 4) da_nil)))))) (dss_cons (ds_if (dt_cmp (op_eqD hr.units) sem_eq (dv 1) (dv 2) rfl) (dss_one (ds_ret de_str)) dss_nil) (dss_cons (ds_if (dt_cmp opGe sem_ci (de_callB (cr_min rfl) sem_minL rfl T.m_min bt_min (da_cons (dv 3) da_nil)) de_int rfl) (dss_one (ds_ret de_str)) dss_nil) (dss_one (ds_ret (de_ifExp (dt_cmp opLe sem_ci (de_callB (cr_max rfl) sem_maxL rfl T.m_max bt_max (da_cons (dv 3) da_nil)) de_int rfl) de_str de_str)))))))
set_option maxHeartbeats 4000000 in
theorem k_P_is_bundle (T : Txt K w mg base tb A) : FnG P w K mg base 2 A.a_P_is_bundle A.f_P_is_bundle ["value", "kinds"] (spD ⟨K, mg, tb⟩ 2 d_P_is_bundle) := fn_C T.F_P_is_bundle sc_P_is_bundle fun Ar outer s H E hr hG => by
  have S := sc_P_is_bundle
  have tk : Takes (cxOf (L2.CX P w) P w K mg base N_P_is_bundle "is_bundle" (defScope s_P_is_bundle) A.a_P_is_bundle A.c_P_is_bundle Ar outer s H E) (fun c d _ H2 => E c d H2) := takes_of rfl rfl rfl rfl
  exact (dss_cons (ds_if (PW.pt (dw_or (dt_not (dt_truth (de_isi (T := "tuple") rfl T.m_isinstance rfl T.m_tuple bt_tuple (dv 0)) (fun _ => rfl))) (dw_one_or (dt_cmp (op_neD hr.units) sem_ne (de_callB call_len sem_len rfl T.m_len bt_len (da_cons (dv 0) da_nil)) (dv 1) rfl)))) (dss_one (ds_ret de_bl)) dss_nil) (dss_one (ds_ret (de_all hr rfl T.m_all bt_all T.TB_P_is_bundle T.C_P_is_bundle T.tb_P_is_bundle (genN0 (by decide +kernel)) capN_nil (dv 0) (qd_and (qd_call (fnQ_of T.F_P_is_integer T.B_P_is_integer rfl (by decide +kernel) (by decide) rfl rfl rfl) (qd_and (qd_isi (T := "int") T.m_isinstance T.m_int bt_int (qd_name 0 rfl) rfl rfl) (qd_one (qd_not (qd_isi (T := "bool") T.m_isinstance T.m_bool bt_bool (qd_name 0 rfl) rfl rfl)))) T.F_P_is_integer.mgf (qds_cons (qd_name 0 rfl) qds_nil) rfl) (qd_one (qd_cmp cq_ge (qd_name 0 rfl) qd_int)))))))
set_option maxHeartbeats 4000000 in
theorem k_P_is_list (T : Txt K w mg base tb A) : FnG P w K mg base 2 A.a_P_is_list A.f_P_is_list ["value", "kinds"] (spD ⟨K, mg, tb⟩ 2 d_P_is_list) := fn_C T.F_P_is_list sc_P_is_list fun Ar outer s H E hr hG => by
  have S := sc_P_is_list
  have tk : Takes (cxOf (L2.CX P w) P w K mg base N_P_is_list "is_list" (defScope s_P_is_list) A.a_P_is_list A.c_P_is_list Ar outer s H E) (fun c d _ H2 => E c d H2) := takes_of rfl rfl rfl rfl
  exact (dss_cons (ds_if (PW.pt (dw_or (dt_not (dt_truth (de_isi (T := "tuple") rfl T.m_isinstance rfl T.m_tuple bt_tuple (dv 0)) (fun _ => rfl))) (dw_one_or (dt_not (dt_truth (de_f (k_P_are_kinds T) T.F_P_are_kinds T.B_P_are_kinds (hr.mono (by decide)) hG tk rfl (da_cons (dv 0) (da_cons (dv 1) da_nil))) (fun _ => rfl)))))) (dss_one (ds_ret de_bl)) dss_nil) (dss_one (ds_ret (de_cmp (op_eqD hr.units) sem_eq (de_callB cr_sortedA (sem_sortA mk_ls) rfl T.m_sorted bt_sorted (da_cons (dv 0) da_nil)) (de_listRg mk_ls rfl rfl T.m_list rfl T.m_range (dv 1)) rfl))))
set_option maxHeartbeats 4000000 in
theorem k_L_order (T : Txt K w mg base tb A) : FnG P w K mg base 2 A.a_L_order A.f_L_order ["_law_source_here", "_law_size"] (spD ⟨K, mg, tb⟩ 2 d_L_order) := fn_C T.F_L_order sc_L_order fun Ar outer s H E hr hG => by
  have S := sc_L_order
  have tk : Takes (cxOf (L2.CX P w) P w K mg base N_L_order "_law_order" (defScope s_L_order) A.a_L_order A.c_L_order Ar outer s H E) (fun c d _ H2 => E c d H2) := takes_of rfl rfl rfl rfl
  exact (dss_cons (ds_par (i := 2) (j := 3) rfl S.nd rfl rfl (by decide) rfl rfl (da_cons (de_listRg mk_mut rfl rfl T.m_list rfl T.m_range (dv 1)) (da_cons (de_lstM (pe_lst da_nil)) da_nil))) (dss_cons (ds_while (passes_of rfl) (dt_cmp (op_neD hr.units) sem_ne (dv 2) (de_lst (pe_lst da_nil)) rfl) (dss_one (ds_expr (de_bm PySem.F.plainAttrs_list PySem.F.slot_list_append PySem.F.type_list_append mt_append ckL_ok sem_append (dv 3) (da_cons (de_bm PySem.F.plainAttrs_list PySem.F.slot_list_pop PySem.F.type_list_pop mt_popAt ckL_ok sem_popAt (dv 2) (da_cons (de_f (k_L_take T) T.F_L_take T.B_L_take (hr.mono (by decide)) hG tk rfl (da_cons (dv 0) (da_cons (de_callB call_len sem_len rfl T.m_len bt_len (da_cons (dv 2) da_nil)) da_nil))) da_nil)) da_nil))))) (dss_one (ds_ret (de_callTy call_tupS sem_tuple rfl T.m_tuple bt_tuple (da_cons (dv 3) da_nil))))))
set_option maxHeartbeats 4000000 in
theorem k_L_share (T : Txt K w mg base tb A) : FnG P w K mg base 2 A.a_L_share A.f_L_share ["_law_source_here", "_law_size", "_law_top"] (spD ⟨K, mg, tb⟩ 3 d_L_share) := fn_C T.F_L_share sc_L_share fun Ar outer s H E hr hG => by
  have S := sc_L_share
  have tk : Takes (cxOf (L2.CX P w) P w K mg base N_L_share "_law_share" (defScope s_L_share) A.a_L_share A.c_L_share Ar outer s H E) (fun c d _ H2 => E c d H2) := takes_of rfl rfl rfl rfl
  exact (dss_one (ds_ret (de_callTy call_tupS sem_tuple rfl T.m_tuple bt_tuple (da_cons (de_lc (own := [("_law_turn", 3)]) mkf_ls (by decide) rfl S.nd (di_range1 rfl T.m_range (da_cons (dv 1) da_nil)) (blkOk_by (N := N_L_share) (sc := defScope s_L_share) (by decide +kernel)) (fun _ _ _ _ _ => (dg_name (i := 3) S.nd rfl (Or.inl rfl))) (fun _ _ _ _ _ => dts_nil) (fun _ _ _ _ _ => (de_mul (de_f (k_L_take T) T.F_L_take T.B_L_take (hr.mono (by decide)) hG takes0 rfl (da_cons (dv 0) (da_cons (dv 2) da_nil))) (de_f (k_L_take T) T.F_L_take T.B_L_take (hr.mono (by decide)) hG takes0 rfl (da_cons (dv 0) (da_cons de_int da_nil)))))) da_nil))))
set_option maxHeartbeats 4000000 in
theorem k_L_moved (T : Txt K w mg base tb A) : FnG P w K mg base 2 A.a_L_moved A.f_L_moved ["_law_source_here", "_law_line"] (spD ⟨K, mg, tb⟩ 2 d_L_moved) := fn_C T.F_L_moved sc_L_moved fun Ar outer s H E hr hG => by
  have S := sc_L_moved
  have tk : Takes (cxOf (L2.CX P w) P w K mg base N_L_moved "_law_moved" (defScope s_L_moved) A.a_L_moved A.c_L_moved Ar outer s H E) (fun c d _ H2 => E c d H2) := takes_of rfl rfl rfl rfl
  exact (dss_cons (ds_set (i := 2) S.nd rfl (Or.inl rfl) (de_callTy call_list_of (sem_list mk_mut) rfl T.m_list bt_list (da_cons (dv 1) da_nil))) (dss_cons (ds_if (dt_cmp (op_eqD hr.units) sem_eq (dv 2) (de_lst (pe_lst da_nil)) rfl) (dss_one (ds_ret (de_tup (pe_tupS da_nil)))) dss_nil) (dss_cons (ds_for (passes_of rfl) rfl (di_seq (de_slice (de_slice (de_lst (pe_lst (da_cons (de_neg de_int) (da_cons de_int da_nil)))) (do_some (de_f (k_L_take T) T.F_L_take T.B_L_take (hr.mono (by decide)) hG tk rfl (da_cons (dv 0) (da_cons de_int da_nil)))) do_none) do_none (do_some (de_add de_int (de_f (k_L_take T) T.F_L_take T.B_L_take (hr.mono (by decide)) hG tk rfl (da_cons (dv 0) (da_cons de_int da_nil))))))) (dg_name (i := 3) S.nd rfl (Or.inl rfl)) (dss_cons (ds_set (i := 4) S.nd rfl (Or.inl rfl) (de_f (k_L_take T) T.F_L_take T.B_L_take (hr.mono (by decide)) hG tk rfl (da_cons (dv 0) (da_cons (de_callB call_len sem_len rfl T.m_len bt_len (da_cons (dv 2) da_nil)) da_nil)))) (dss_one (ds_setIx (de_callB (call_max2 rfl) sem_max2 rfl T.m_max bt_max (da_cons de_int (da_cons (de_add (de_ixD (dv 2) (dv 4)) (dv 3)) da_nil))) (dv 2) (dv 4))))) (dss_one (ds_ret (de_callTy call_tupS sem_tuple rfl T.m_tuple bt_tuple (da_cons (dv 2) da_nil)))))))
set_option maxHeartbeats 4000000 in
theorem k_P_check_ranking (T : Txt K w mg base tb A) : FnG P w K mg base 3 A.a_P_check_ranking A.f_P_check_ranking ["ranking", "kinds"] (spD ⟨K, mg, tb⟩ 2 d_P_check_ranking) := fn_C T.F_P_check_ranking sc_P_check_ranking fun Ar outer s H E hr hG => by
  have S := sc_P_check_ranking
  have tk : Takes (cxOf (L2.CX P w) P w K mg base N_P_check_ranking "check_ranking" (defScope s_P_check_ranking) A.a_P_check_ranking A.c_P_check_ranking Ar outer s H E) (fun c d _ H2 => E c d H2) := takes_of rfl rfl rfl rfl
  exact (dss_one (ds_if (dt_not (dt_truth (de_f (k_P_is_list T) T.F_P_is_list T.B_P_is_list (hr.mono (by decide)) hG tk rfl (da_cons (dv 0) (da_cons (dv 1) da_nil))) (fun _ => rfl))) (dss_one ds_never) dss_nil))
set_option maxHeartbeats 4000000 in
theorem k_P_compare (T : Txt K w mg base tb A) : FnG P w K mg base 4 A.a_P_compare A.f_P_compare ["ranking", "one", "other"] (spD ⟨K, mg, tb⟩ 3 d_P_compare) := fn_C T.F_P_compare sc_P_compare fun Ar outer s H E hr hG => by
  have S := sc_P_compare
  have tk : Takes (cxOf (L2.CX P w) P w K mg base N_P_compare "compare" (defScope s_P_compare) A.a_P_compare A.c_P_compare Ar outer s H E) (fun c d _ H2 => E c d H2) := takes_of rfl rfl rfl rfl
  exact (dss_cons (ds_expr (de_f (k_P_check_ranking T) T.F_P_check_ranking T.B_P_check_ranking (hr.mono (by decide)) hG tk rfl (da_cons (dv 0) (da_cons (de_f (k_P_kinds_in T) T.F_P_kinds_in T.B_P_kinds_in (hr.mono (by decide)) hG tk rfl (da_cons (dv 0) da_nil)) da_nil)))) (dss_cons (ds_for (passes_of rfl) rfl (di_enum rfl T.m_enumerate (de_tup (pe_tupS (da_cons (dv 1) (da_cons (dv 2) da_nil))))) (dg_tup rfl (dgs_cons (dg_name (i := 3) S.nd rfl (Or.inl rfl)) (dgs_cons (dg_name (i := 4) S.nd rfl (Or.inl rfl)) dgs_nil))) (dss_one (ds_if (dt_not (dt_truth (de_f (k_P_is_bundle T) T.F_P_is_bundle T.B_P_is_bundle (hr.mono (by decide)) hG tk rfl (da_cons (dv 4) (da_cons (de_callB call_len sem_len rfl T.m_len bt_len (da_cons (dv 0) da_nil)) da_nil))) (fun _ => rfl))) (dss_one ds_never) dss_nil))) (dss_cons (ds_if (dt_cmp (op_eqD hr.units) sem_eq (dv 1) (dv 2) rfl) (dss_one (ds_ret de_str)) dss_nil) (dss_cons (ds_setLc (i := 5) (own := [("many", 6), ("its", 7)]) mkf_ls (by decide) rfl S.nd rfl rfl (sw_true rfl rfl rfl (by decide +kernel)) (di_zip rfl T.m_zip (de_f (k_P_prefix_items T) T.F_P_prefix_items T.B_P_prefix_items (hr.mono (by decide)) hG tk rfl (da_cons (dv 1) (da_cons (dv 0) da_nil))) (de_f (k_P_prefix_items T) T.F_P_prefix_items T.B_P_prefix_items (hr.mono (by decide)) hG tk rfl (da_cons (dv 2) (da_cons (dv 0) da_nil)))) (blkOk_by (N := N_P_compare) (sc := defScope s_P_compare) (by decide +kernel)) (fun _ _ _ _ _ => (dg_tup rfl (dgs_cons (dg_name (i := 6) S.nd rfl (Or.inl rfl)) (dgs_cons (dg_name (i := 7) S.nd rfl (Or.inl rfl)) dgs_nil)))) (fun _ _ _ _ _ => dts_nil) (fun _ _ _ _ _ => (de_sub (dv 6) (dv 7)))) (dss_cons (ds_if (dt_cmp opGe sem_ci (de_callB (cr_min rfl) sem_minL rfl T.m_min bt_min (da_cons (dv 5) da_nil)) de_int rfl) (dss_one (ds_ret de_str)) dss_nil) (dss_cons (ds_if (dt_cmp opLe sem_ci (de_callB (cr_max rfl) sem_maxL rfl T.m_max bt_max (da_cons (dv 5) da_nil)) de_int rfl) (dss_one (ds_ret de_str)) dss_nil) (dss_one (ds_ret de_str))))))))
set_option maxHeartbeats 4000000 in
theorem k_P_law (T : Txt K w mg base tb A) : FnG P w K mg base 5 A.a_P_law A.f_P_law ["_law_script"] (spD ⟨K, mg, tb⟩ 1 d_P_law) := fn_C T.F_P_law sc_P_law fun Ar outer s H E hr hG => by
  have S := sc_P_law
  have tk : Takes (cxOf (L2.CX P w) P w K mg base N_P_law "law" (defScope s_P_law) A.a_P_law A.c_P_law Ar outer s H E) (fun c d _ H2 => E c d H2) := takes_of rfl rfl rfl rfl
  exact (dss_cons (ds_for (passes_of rfl) rfl (di_seq (de_add (de_lst (pe_lst (da_cons (de_f (k_L_cell_at T) T.F_L_cell_at T.B_L_cell_at (hr.mono (by decide)) hG tk rfl (da_cons (dv 0) (da_cons de_int da_nil))) da_nil))) (de_slice (dv 0) (do_some de_int) (do_some de_int)))) (dg_name (i := 1) S.nd rfl (Or.inl rfl)) (dss_cons (ds_set (i := 2) S.nd rfl (Or.inr rfl) (de_f (k_L_source T) T.F_L_source T.B_L_source (hr.mono (by decide)) hG tk rfl (da_cons (dv 1) da_nil))) (dss_cons (ds_set (i := 3) S.nd rfl (Or.inl rfl) (de_ixD (de_lst (pe_lst (da_cons (de_f (k_L_take T) T.F_L_take T.B_L_take (hr.mono (by decide)) hG tk rfl (da_cons (dv 2) (da_cons de_int da_nil))) (da_cons (de_f (k_L_take T) T.F_L_take T.B_L_take (hr.mono (by decide)) hG tk rfl (da_cons (dv 2) (da_cons de_int da_nil))) (da_cons (de_f (k_L_take T) T.F_L_take T.B_L_take (hr.mono (by decide)) hG tk rfl (da_cons (dv 2) (da_cons de_int da_nil))) (da_cons de_int da_nil)))))) (de_f (k_L_take T) T.F_L_take T.B_L_take (hr.mono (by decide)) hG tk rfl (da_cons (dv 2) (da_cons de_int da_nil))))) (dss_cons (ds_set (i := 4) S.nd rfl (Or.inl rfl) (de_f (k_L_order T) T.F_L_order T.B_L_order (hr.mono (by decide)) hG tk rfl (da_cons (dv 2) (da_cons (dv 3) da_nil)))) (dss_cons (ds_set (i := 5) S.nd rfl (Or.inl rfl) (de_f (k_L_share T) T.F_L_share T.B_L_share (hr.mono (by decide)) hG tk rfl (da_cons (dv 2) (da_cons (dv 3) (da_cons (de_ixD (de_lst (pe_lst (da_cons de_int (da_cons de_int (da_cons (de_pow de_int de_int) da_nil))))) (de_f (k_L_take T) T.F_L_take T.B_L_take (hr.mono (by decide)) hG tk rfl (da_cons (dv 2) (da_cons de_int da_nil)))) da_nil))))) (dss_cons (ds_if (dt_cmp (op_eqD hr.units) sem_eq (de_f (k_L_take T) T.F_L_take T.B_L_take (hr.mono (by decide)) hG tk rfl (da_cons (dv 2) (da_cons de_int da_nil))) de_int rfl) (dss_one (ds_set (i := 5) S.nd rfl (Or.inl rfl) (de_callTy call_tupS sem_tuple rfl T.m_tuple bt_tuple (da_cons (de_lc (own := [("_law_part", 10)]) mkf_ls (by decide) rfl S.nd (di_seq (dv 5)) (blkOk_by (N := N_P_law) (sc := defScope s_P_law) (by decide +kernel)) (fun _ _ _ _ _ => (dg_name (i := 10) S.nd rfl (Or.inl rfl))) (fun _ _ _ _ _ => dts_nil) (fun _ _ _ _ _ => (de_add (de_mul (dv 10) (de_pow de_int de_int)) (de_f (k_L_take T) T.F_L_take T.B_L_take (hr.mono (by decide)) hG takes0 rfl (da_cons (dv 2) (da_cons (de_pow de_int de_int) da_nil)))))) da_nil)))) dss_nil) (dss_one (ds_for (passes_of rfl) rfl (di_range1 rfl T.m_range (da_cons de_int da_nil)) (dg_name (i := 6) S.nd rfl (Or.inl rfl)) (dss_cons (ds_set (i := 7) S.nd rfl (Or.inl rfl) (de_ixD (de_lst (pe_lst (da_cons (de_f (k_L_share T) T.F_L_share T.B_L_share (hr.mono (by decide)) hG tk rfl (da_cons (dv 2) (da_cons (dv 3) (da_cons de_int da_nil)))) (da_cons (dv 5) (da_cons (de_f (k_L_moved T) T.F_L_moved T.B_L_moved (hr.mono (by decide)) hG tk rfl (da_cons (dv 2) (da_cons (dv 5) da_nil))) (da_cons (de_f (k_L_moved T) T.F_L_moved T.B_L_moved (hr.mono (by decide)) hG tk rfl (da_cons (dv 2) (da_cons (dv 5) da_nil))) da_nil)))))) (dv 6))) (dss_cons (ds_set (i := 8) S.nd rfl (Or.inl rfl) (de_f (k_L_word T) T.F_L_word T.B_L_word (hr.mono (by decide)) hG tk rfl (da_cons (dv 4) (da_cons (dv 5) (da_cons (dv 7) da_nil))))) (dss_cons (ds_set (i := 9) S.nd rfl (Or.inl rfl) (de_dget (hu_of hr) (fun _ _ => rfl) (de_disp mkd_dic (by decide) (by decide) rfl rfl (List.cons_ne_nil _ _) (by decide) (dps_cons (k := .inr "equal") pe_str de_str (dps_cons (k := .inr "better") pe_str de_str (dps_cons (k := .inr "worse") pe_str de_str (dps_cons (k := .inr "unclear") pe_str de_str dps_nil))))) (dv 8))) (dss_one (ds_if (PW.pt (dw_or (dt_cmp (op_neD hr.units) sem_ne (de_f (k_P_compare T) T.F_P_compare T.B_P_compare (hr.mono (by decide)) hG tk rfl (da_cons (dv 4) (da_cons (dv 5) (da_cons (dv 7) da_nil)))) (dv 8) rfl) (dw_one_or (dt_cmp (op_neD hr.units) sem_ne (de_fnK (ks := ["other", "one", "ranking"]) (pm := [2, 1, 0]) (k_P_compare T) (hr.mono (by decide)) hG rfl T.F_P_compare.mgf T.F_P_compare.kp (T.K_P_compare_210) tk (dk_cons (dv 5) (dk_cons (dv 7) (dk_cons (dv 4) dk_nil))) (by intro sl μ ds μ2 h; exact kwLen_3 h)) (dv 9) rfl)))) (dss_one (ds_ret de_bl)) dss_nil))))))))))))) (dss_one (ds_ret de_bl)))
end
end TX
namespace TX
open PySem PySem.Spec L2 DL
theorem take_ok {h : Nat} {b c n : Int} {μ : Mu} (hs : Src μ h b c) (b0 : 0 ≤ b) (b1 : b < 2 ^ 31) (h0 : 0 ≤ c) (h1 : c < 2 ^ 50) (n0 : 0 < n) (n1 : n.natAbs.log2 < 9000) :
    Ok (d_L_take [.mref h, .int n]) μ fun d μ1 => Drawn μ μ1 h b c 1 ∧ ∃ r : Int, d = .int r ∧ 0 ≤ r ∧ r < n := by
  obtain ⟨a, hm⟩ := hs
  have hl := lt_of_get hm
  refine denC_flat ?_
  unfold g_L_take
  try simp only [rn_op2, rn_cb, rn_nil, rn_cons, rn_un, rn_i2, rn_addI, rn_mul, rn_ci, rn_k, rn_var, rn_bm, rn_sl, rn_pNo, rn_pSome, rn_tBl, rn_tNt, rn_tAn, rn_tOo, rn_tTru, rn_and, rn_or, rn_not, rn_if, rn_chain, rn_rep, rn_kw, rn_mut, rn_lst, rn_ls, rn_tup, rn_app, rn_setM, rn_ixM, rn_ixL, rn_ixT, rn_lenL, rn_lenT, rn_lenM, rn_min2, rn_max2, rn_divmod, rn_eqI, rn_neI, rn_isN, rn_notN, rn_isB, rn_notB, rn_intI, rn_intB, rn_tupL, rn_tupT, rn_tupM, rn_iseq, rn_ien, rn_tYes, dTr_bl, dTr_int, dTr_non, dTr_lst, rn_dk, rn_fld, rn_setFld, rn_meth, ck_I, oks_setFld_iff, oks_augFld_iff, oks_par_two, rn_lenS, rn_countS, ck_L, ck_S, exists_eq, exists_eq', MO.lst.injEq, oks_seq_iff, oks_set_iff, oks_drop_iff, oks_ret_iff, oks_retN_iff, oks_aug_iff, oks_asg_iff, oks_setIx_iff, oks_nx, oks_brk, oks_cnt, nxt_nx, nxt_rt, tgt1, tgt2, tgt3, List.getElem?_cons_zero, List.getElem?_cons_succ, Option.bind_some, id, Option.some.injEq, exists_eq_left', List.set_cons_succ, List.set_cons_zero, D.bl.injEq, D.int.injEq, SR.nx.injEq, SR.rt.injEq, true_and, and_true, if_true, if_false, Bool.not_true, Bool.not_false, Bool.false_eq_true, Bool.true_eq_false, decide_eq_true_eq, Bool.not_eq_true', decide_eq_false_iff_not, nxt_ex, eq_self, not_true_eq_false, not_false_eq_true, st0, List.map_cons, List.map_nil, List.length_cons, List.length_nil, List.replicate, List.cons_append, List.nil_append, Nat.reduceAdd, Nat.reduceSub, Nat.zero_add, Nat.sub_self]
  rw [oks_if_iff]
  try simp only [rn_op2, rn_cb, rn_nil, rn_cons, rn_un, rn_i2, rn_addI, rn_mul, rn_ci, rn_k, rn_var, rn_bm, rn_sl, rn_pNo, rn_pSome, rn_tBl, rn_tNt, rn_tAn, rn_tOo, rn_tTru, rn_and, rn_or, rn_not, rn_if, rn_chain, rn_rep, rn_kw, rn_mut, rn_lst, rn_ls, rn_tup, rn_app, rn_setM, rn_ixM, rn_ixL, rn_ixT, rn_lenL, rn_lenT, rn_lenM, rn_min2, rn_max2, rn_divmod, rn_eqI, rn_neI, rn_isN, rn_notN, rn_isB, rn_notB, rn_intI, rn_intB, rn_tupL, rn_tupT, rn_tupM, rn_iseq, rn_ien, rn_tYes, dTr_bl, dTr_int, dTr_non, dTr_lst, rn_dk, rn_fld, rn_setFld, rn_meth, ck_I, oks_setFld_iff, oks_augFld_iff, oks_par_two, rn_lenS, rn_countS, ck_L, ck_S, exists_eq, exists_eq', MO.lst.injEq, oks_seq_iff, oks_set_iff, oks_drop_iff, oks_ret_iff, oks_retN_iff, oks_aug_iff, oks_asg_iff, oks_setIx_iff, oks_nx, oks_brk, oks_cnt, nxt_nx, nxt_rt, tgt1, tgt2, tgt3, List.getElem?_cons_zero, List.getElem?_cons_succ, Option.bind_some, id, Option.some.injEq, exists_eq_left', List.set_cons_succ, List.set_cons_zero, D.bl.injEq, D.int.injEq, SR.nx.injEq, SR.rt.injEq, true_and, and_true, if_true, if_false, Bool.not_true, Bool.not_false, Bool.false_eq_true, Bool.true_eq_false, decide_eq_true_eq, Bool.not_eq_true', decide_eq_false_iff_not, nxt_ex, eq_self, not_true_eq_false, not_false_eq_true, hm, at3_0, at3_1, at3_2, ix3_0, ix3_2, set3_0, set3_2]
  by_cases ha : a > 0
  · rw [if_pos (by simpa using ha)]
    exact ⟨n0, ⟨n0, n1⟩, trivial, List.length_set, muLow_src, ⟨a / n, c, h0, by omega, rfl⟩, Int.emod_nonneg _ (by omega), Int.emod_lt_of_pos _ n0⟩
  · rw [if_neg (by simpa using ha)]
    try simp only [rn_op2, rn_cb, rn_nil, rn_cons, rn_un, rn_i2, rn_addI, rn_mul, rn_ci, rn_k, rn_var, rn_bm, rn_sl, rn_pNo, rn_pSome, rn_tBl, rn_tNt, rn_tAn, rn_tOo, rn_tTru, rn_and, rn_or, rn_not, rn_if, rn_chain, rn_rep, rn_kw, rn_mut, rn_lst, rn_ls, rn_tup, rn_app, rn_setM, rn_ixM, rn_ixL, rn_ixT, rn_lenL, rn_lenT, rn_lenM, rn_min2, rn_max2, rn_divmod, rn_eqI, rn_neI, rn_isN, rn_notN, rn_isB, rn_notB, rn_intI, rn_intB, rn_tupL, rn_tupT, rn_tupM, rn_iseq, rn_ien, rn_tYes, dTr_bl, dTr_int, dTr_non, dTr_lst, rn_dk, rn_fld, rn_setFld, rn_meth, ck_I, oks_setFld_iff, oks_augFld_iff, oks_par_two, rn_lenS, rn_countS, ck_L, ck_S, exists_eq, exists_eq', MO.lst.injEq, oks_seq_iff, oks_set_iff, oks_drop_iff, oks_ret_iff, oks_retN_iff, oks_aug_iff, oks_asg_iff, oks_setIx_iff, oks_nx, oks_brk, oks_cnt, nxt_nx, nxt_rt, tgt1, tgt2, tgt3, List.getElem?_cons_zero, List.getElem?_cons_succ, Option.bind_some, id, Option.some.injEq, exists_eq_left', List.set_cons_succ, List.set_cons_zero, D.bl.injEq, D.int.injEq, SR.nx.injEq, SR.rt.injEq, true_and, and_true, if_true, if_false, Bool.not_true, Bool.not_false, Bool.false_eq_true, Bool.true_eq_false, decide_eq_true_eq, Bool.not_eq_true', decide_eq_false_iff_not, nxt_ex, eq_self, not_true_eq_false, not_false_eq_true, set_get hl, at3_0, at3_1, at3_2, ix3_0, ix3_2, set3_0, set3_2]
    obtain ⟨d, ed, hd⟩ := at4_i (x0 := .int 2147483629) (x1 := .int 2147483587) (x2 := .int 2147483579) (x3 := .int 2147483563) (Int.emod_nonneg (c + 1) (by decide : (4 : Int) ≠ 0)) (Int.emod_lt_of_pos (c + 1) (by decide : (0 : Int) < 4))
    have hp : ∃ p : Int, d = .int p ∧ 2147483563 ≤ p ∧ p ≤ 2147483629 := by
      rcases hd with rfl | rfl | rfl | rfl <;> exact ⟨_, rfl, by decide, by decide⟩
    obtain ⟨p, rfl, p0, p1⟩ := hp
    refine ⟨by decide, by decide, _, ed, logs (by omega) (by omega), ⟨by decide, by decide, by omega⟩, ?_⟩
    try simp only [rn_op2, rn_cb, rn_nil, rn_cons, rn_un, rn_i2, rn_addI, rn_mul, rn_ci, rn_k, rn_var, rn_bm, rn_sl, rn_pNo, rn_pSome, rn_tBl, rn_tNt, rn_tAn, rn_tOo, rn_tTru, rn_and, rn_or, rn_not, rn_if, rn_chain, rn_rep, rn_kw, rn_mut, rn_lst, rn_ls, rn_tup, rn_app, rn_setM, rn_ixM, rn_ixL, rn_ixT, rn_lenL, rn_lenT, rn_lenM, rn_min2, rn_max2, rn_divmod, rn_eqI, rn_neI, rn_isN, rn_notN, rn_isB, rn_notB, rn_intI, rn_intB, rn_tupL, rn_tupT, rn_tupM, rn_iseq, rn_ien, rn_tYes, dTr_bl, dTr_int, dTr_non, dTr_lst, rn_dk, rn_fld, rn_setFld, rn_meth, ck_I, oks_setFld_iff, oks_augFld_iff, oks_par_two, rn_lenS, rn_countS, ck_L, ck_S, exists_eq, exists_eq', MO.lst.injEq, oks_seq_iff, oks_set_iff, oks_drop_iff, oks_ret_iff, oks_retN_iff, oks_aug_iff, oks_asg_iff, oks_setIx_iff, oks_nx, oks_brk, oks_cnt, nxt_nx, nxt_rt, tgt1, tgt2, tgt3, List.getElem?_cons_zero, List.getElem?_cons_succ, Option.bind_some, id, Option.some.injEq, exists_eq_left', List.set_cons_succ, List.set_cons_zero, D.bl.injEq, D.int.injEq, SR.nx.injEq, SR.rt.injEq, true_and, and_true, if_true, if_false, Bool.not_true, Bool.not_false, Bool.false_eq_true, Bool.true_eq_false, decide_eq_true_eq, Bool.not_eq_true', decide_eq_false_iff_not, nxt_ex, eq_self, not_true_eq_false, not_false_eq_true, set_get hl, at3_0, at3_1, at3_2, ix3_0, ix3_2, set3_0, set3_2]
    have pp : (0 : Int) < p := by omega
    generalize hx : (b + 6007 * (c + 1) + 29) ^ Int.toNat 3 % p = x
    have x0 : 0 ≤ x := by rw [← hx]; exact Int.emod_nonneg _ (by omega)
    have x1 : x < p := by rw [← hx]; exact Int.emod_lt_of_pos _ pp
    generalize hy : (x + (c + 1)) * (x / 1021 + 50021) % p = y
    have y0 : 0 ≤ y := by rw [← hy]; exact Int.emod_nonneg _ (by omega)
    have y1 : y < p := by rw [← hy]; exact Int.emod_lt_of_pos _ pp
    refine ⟨pp, ⟨by decide, by decide⟩, logs (by omega) (by omega), pp, ⟨by decide, by decide⟩, logs (by decide) (by omega), logs (by omega) (by omega), pp, ⟨by decide, by decide⟩, n0, trivial, List.length_set, muLow_src, ⟨a, c + 1, by omega, by omega, rfl⟩, Int.emod_nonneg _ (by omega), Int.emod_lt_of_pos _ n0⟩
/-- ints as data -/
abbrev nD (r : List Nat) : List D := (r.map fun k : Nat => (k : Int)).map D.int
theorem nD_len (r : List Nat) : (nD r).length = r.length := by simp
theorem nD_get {r : List Nat} {i k : Nat} (h : r[i]? = some k) : (nD r)[i]? = some (.int (k : Int)) := by simp [h]
theorem nD_app (r s : List Nat) : nD (r ++ s) = nD r ++ nD s := by simp
theorem nD_erase : ∀ (r : List Nat) (k : Nat), (nD r).eraseIdx k = nD (r.eraseIdx k)
  | [], k => by simp
  | x :: r, 0 => by simp
  | x :: r, k + 1 => by
    show D.int (x : Int) :: (nD r).eraseIdx k = D.int (x : Int) :: nD (r.eraseIdx k)
    rw [nD_erase r k]
theorem upto_nD (n : Nat) : upto 0 n = nD (List.range n) := by
  unfold upto nD
  rw [List.map_map]
  exact List.map_congr_left fun i _ => by simp
theorem erase_perm : ∀ {l : List Nat} {i x : Nat}, l[i]? = some x → (x :: l.eraseIdx i).Perm l
  | [], i, x, h => by simp at h
  | y :: l, 0, x, h => by simp at h; subst h; exact List.Perm.refl _
  | y :: l, i + 1, x, h => by
    have := erase_perm (l := l) (i := i) (x := x) (by simpa using h)
    show (x :: y :: l.eraseIdx i).Perm (y :: l)
    exact (List.Perm.swap y x _).trans (List.Perm.cons y this)
theorem order_ok {h n : Nat} {b c N : Int} {μ : Mu} (hN : (n : Int) = N) (hs : Src μ h b c) (b0 : 0 ≤ b) (b1 : b < 2 ^ 31) (h0 : 0 ≤ c) (h1 : c < 2 ^ 40) (n1 : n ≤ 1000) :
    Ok (d_L_order [.mref h, .int N]) μ fun d μ1 => Drawn μ μ1 h b c n ∧ ∃ r : List Nat, d = .tup (nD r) ∧ r.Perm (List.range n) := by
  have hl := hs.lt
  subst hN
  refine denC_cut ?_
  unfold g_L_order
  try simp only [rn_op2, rn_cb, rn_nil, rn_cons, rn_un, rn_i2, rn_addI, rn_mul, rn_ci, rn_k, rn_var, rn_bm, rn_sl, rn_pNo, rn_pSome, rn_tBl, rn_tNt, rn_tAn, rn_tOo, rn_tTru, rn_and, rn_or, rn_not, rn_if, rn_chain, rn_rep, rn_kw, rn_mut, rn_lst, rn_ls, rn_tup, rn_app, rn_setM, rn_ixM, rn_ixL, rn_ixT, rn_lenL, rn_lenT, rn_lenM, rn_min2, rn_max2, rn_divmod, rn_eqI, rn_neI, rn_isN, rn_notN, rn_isB, rn_notB, rn_intI, rn_intB, rn_tupL, rn_tupT, rn_tupM, rn_iseq, rn_ien, rn_tYes, dTr_bl, dTr_int, dTr_non, dTr_lst, rn_dk, rn_fld, rn_setFld, rn_meth, ck_I, oks_setFld_iff, oks_augFld_iff, oks_par_two, rn_lenS, rn_countS, ck_L, ck_S, exists_eq, exists_eq', MO.lst.injEq, oks_seq_iff, oks_set_iff, oks_drop_iff, oks_ret_iff, oks_retN_iff, oks_aug_iff, oks_asg_iff, oks_setIx_iff, oks_nx, oks_brk, oks_cnt, nxt_nx, nxt_rt, tgt1, tgt2, tgt3, List.getElem?_cons_zero, List.getElem?_cons_succ, Option.bind_some, id, Option.some.injEq, exists_eq_left', List.set_cons_succ, List.set_cons_zero, D.bl.injEq, D.int.injEq, SR.nx.injEq, SR.rt.injEq, true_and, and_true, if_true, if_false, Bool.not_true, Bool.not_false, Bool.false_eq_true, Bool.true_eq_false, decide_eq_true_eq, Bool.not_eq_true', decide_eq_false_iff_not, nxt_ex, eq_self, not_true_eq_false, not_false_eq_true, st0, List.map_cons, List.map_nil, List.length_cons, List.length_nil, List.replicate, List.cons_append, List.nil_append, Nat.reduceAdd, Nat.reduceSub, Nat.zero_add, Nat.sub_self, rn_lstRg]
  have hrg : rgN (D.int n) = some (n : Int) := by
    show (if RgOk 0 (n : Int) then some (n : Int) else none) = _
    rw [if_pos]
    unfold RgOk
    omega
  refine ⟨_, hrg, Nat.le_trans (by rw [upto_lenN, Int.toNat_natCast]; exact n1) (by decide), Nat.zero_le _, ?_⟩
  have hL : (μ ++ [some (MO.lst (upto 0 ((n : Int)).toNat))]).length = μ.length + 1 := by simp
  rw [hL]
  generalize hQ : (nxt (sRet (eCB oTupOf (aCons (eVar 3) aNil))) fun r μ1 => ∃ d, r = SR.rt d ∧ D.bel μ.length d ∧ MuLow μ.length μ μ1 ∧ Drawn μ (List.take μ.length μ1) h b c n ∧ ∃ r, d = D.tup (nD r) ∧ r.Perm (List.range n)) = QQ
  refine oks_while (fun m sl μk => sl = [some (.mref h), some (.int n), some (.mref μ.length), some (.mref (μ.length + 1))] ∧ ∃ (pool dr : List Nat) (σ : Mu), m = pool.length ∧ (dr ++ pool).Perm (List.range n) ∧ Drawn μ σ h b c dr.length ∧ μk = σ ++ [some (.lst (nD pool)), some (.lst (nD dr))]) n _ _ ?_ ?_
  · refine ⟨rfl, List.range n, [], μ, by simp, by simp, Drawn.zero hs h0, ?_⟩
    rw [Int.toNat_natCast, upto_nD, List.append_assoc]; rfl
  · rintro m sl μk ⟨rfl, pool, dr, σ, rfl, hp, drw, rfl⟩
    have hσl : σ.length = μ.length := drw.len
    obtain ⟨c2, sc, c20, c21⟩ := drw.src hl
    have hlen := hp.length_eq
    rw [List.length_append, List.length_range] at hlen
    have g0 : (σ ++ [some (MO.lst (nD pool)), some (MO.lst (nD dr))])[μ.length]? = some (some (.lst (nD pool))) := ag0 hσl
    have g1 : (σ ++ [some (MO.lst (nD pool)), some (MO.lst (nD dr))])[μ.length + 1]? = some (some (.lst (nD dr))) := ag1 hσl
    try simp only [rn_op2, rn_cb, rn_nil, rn_cons, rn_un, rn_i2, rn_addI, rn_mul, rn_ci, rn_k, rn_var, rn_bm, rn_sl, rn_pNo, rn_pSome, rn_tBl, rn_tNt, rn_tAn, rn_tOo, rn_tTru, rn_and, rn_or, rn_not, rn_if, rn_chain, rn_rep, rn_kw, rn_mut, rn_lst, rn_ls, rn_tup, rn_app, rn_setM, rn_ixM, rn_ixL, rn_ixT, rn_lenL, rn_lenT, rn_lenM, rn_min2, rn_max2, rn_divmod, rn_eqI, rn_neI, rn_isN, rn_notN, rn_isB, rn_notB, rn_intI, rn_intB, rn_tupL, rn_tupT, rn_tupM, rn_iseq, rn_ien, rn_tYes, dTr_bl, dTr_int, dTr_non, dTr_lst, rn_dk, rn_fld, rn_setFld, rn_meth, ck_I, oks_setFld_iff, oks_augFld_iff, oks_par_two, rn_lenS, rn_countS, ck_L, ck_S, exists_eq, exists_eq', MO.lst.injEq, oks_seq_iff, oks_set_iff, oks_drop_iff, oks_ret_iff, oks_retN_iff, oks_aug_iff, oks_asg_iff, oks_setIx_iff, oks_nx, oks_brk, oks_cnt, nxt_nx, nxt_rt, tgt1, tgt2, tgt3, List.getElem?_cons_zero, List.getElem?_cons_succ, Option.bind_some, id, Option.some.injEq, exists_eq_left', List.set_cons_succ, List.set_cons_zero, D.bl.injEq, D.int.injEq, SR.nx.injEq, SR.rt.injEq, true_and, and_true, if_true, if_false, Bool.not_true, Bool.not_false, Bool.false_eq_true, Bool.true_eq_false, decide_eq_true_eq, Bool.not_eq_true', decide_eq_false_iff_not, nxt_ex, eq_self, not_true_eq_false, not_false_eq_true]
    refine ⟨Nat.zero_le _, ?_⟩
    rw [rn_neM (y := .lst []) g0 (nice_ints (by decide)) ⟨by decide, trivial⟩]
    refine ⟨_, rfl, ?_⟩
    by_cases he : pool = []
    · subst he
      rw [if_neg (by simp), ← hQ]
      try simp only [rn_op2, rn_cb, rn_nil, rn_cons, rn_un, rn_i2, rn_addI, rn_mul, rn_ci, rn_k, rn_var, rn_bm, rn_sl, rn_pNo, rn_pSome, rn_tBl, rn_tNt, rn_tAn, rn_tOo, rn_tTru, rn_and, rn_or, rn_not, rn_if, rn_chain, rn_rep, rn_kw, rn_mut, rn_lst, rn_ls, rn_tup, rn_app, rn_setM, rn_ixM, rn_ixL, rn_ixT, rn_lenL, rn_lenT, rn_lenM, rn_min2, rn_max2, rn_divmod, rn_eqI, rn_neI, rn_isN, rn_notN, rn_isB, rn_notB, rn_intI, rn_intB, rn_tupL, rn_tupT, rn_tupM, rn_iseq, rn_ien, rn_tYes, dTr_bl, dTr_int, dTr_non, dTr_lst, rn_dk, rn_fld, rn_setFld, rn_meth, ck_I, oks_setFld_iff, oks_augFld_iff, oks_par_two, rn_lenS, rn_countS, ck_L, ck_S, exists_eq, exists_eq', MO.lst.injEq, oks_seq_iff, oks_set_iff, oks_drop_iff, oks_ret_iff, oks_retN_iff, oks_aug_iff, oks_asg_iff, oks_setIx_iff, oks_nx, oks_brk, oks_cnt, nxt_nx, nxt_rt, tgt1, tgt2, tgt3, List.getElem?_cons_zero, List.getElem?_cons_succ, Option.bind_some, id, Option.some.injEq, exists_eq_left', List.set_cons_succ, List.set_cons_zero, D.bl.injEq, D.int.injEq, SR.nx.injEq, SR.rt.injEq, true_and, and_true, if_true, if_false, Bool.not_true, Bool.not_false, Bool.false_eq_true, Bool.true_eq_false, decide_eq_true_eq, Bool.not_eq_true', decide_eq_false_iff_not, nxt_ex, eq_self, not_true_eq_false, not_false_eq_true]
      refine ⟨_, g1, belL_ints _ _, muLow_app drw.low hσl, ?_, dr, rfl, by simpa using hp⟩
      rw [at0 hσl]
      exact drw.mono (by simp at hlen; omega)
    · rw [if_pos (by simp [he])]
      try simp only [rn_op2, rn_cb, rn_nil, rn_cons, rn_un, rn_i2, rn_addI, rn_mul, rn_ci, rn_k, rn_var, rn_bm, rn_sl, rn_pNo, rn_pSome, rn_tBl, rn_tNt, rn_tAn, rn_tOo, rn_tTru, rn_and, rn_or, rn_not, rn_if, rn_chain, rn_rep, rn_kw, rn_mut, rn_lst, rn_ls, rn_tup, rn_app, rn_setM, rn_ixM, rn_ixL, rn_ixT, rn_lenL, rn_lenT, rn_lenM, rn_min2, rn_max2, rn_divmod, rn_eqI, rn_neI, rn_isN, rn_notN, rn_isB, rn_notB, rn_intI, rn_intB, rn_tupL, rn_tupT, rn_tupM, rn_iseq, rn_ien, rn_tYes, dTr_bl, dTr_int, dTr_non, dTr_lst, rn_dk, rn_fld, rn_setFld, rn_meth, ck_I, oks_setFld_iff, oks_augFld_iff, oks_par_two, rn_lenS, rn_countS, ck_L, ck_S, exists_eq, exists_eq', MO.lst.injEq, oks_seq_iff, oks_set_iff, oks_drop_iff, oks_ret_iff, oks_retN_iff, oks_aug_iff, oks_asg_iff, oks_setIx_iff, oks_nx, oks_brk, oks_cnt, nxt_nx, nxt_rt, tgt1, tgt2, tgt3, List.getElem?_cons_zero, List.getElem?_cons_succ, Option.bind_some, id, Option.some.injEq, exists_eq_left', List.set_cons_succ, List.set_cons_zero, D.bl.injEq, D.int.injEq, SR.nx.injEq, SR.rt.injEq, true_and, and_true, if_true, if_false, Bool.not_true, Bool.not_false, Bool.false_eq_true, Bool.true_eq_false, decide_eq_true_eq, Bool.not_eq_true', decide_eq_false_iff_not, nxt_ex, eq_self, not_true_eq_false, not_false_eq_true, g0, g1]
      rw [rn_call]
      have hpl : 0 < pool.length := List.length_pos_iff.mpr he
      refine ⟨rfl, Ok.rn ((take_ok (n := ((nD pool).length : Int)) sc.app b0 b1 c20 (by omega) (by rw [nD_len]; omega) (smallS (by omega) (by rw [nD_len]; omega))).imp ?_)⟩
      rintro d μ1 ⟨dr1, r, rfl, r0, r1⟩
      obtain ⟨σ', rfl, dr2⟩ := dr1.app (by omega)
      rw [nD_len] at r1
      obtain ⟨k, rfl⟩ := Int.eq_ofNat_of_zero_le r0
      have hk : k < pool.length := by omega
      have gk : pool[k]? = some pool[k] := List.getElem?_eq_getElem hk
      have hσ2 : σ'.length = μ.length := by rw [dr2.len, hσl]
      rw [rn_popM (ag0 hσ2) (by omega) (k := k) (by unfold seqIndex?; simp; omega) (nD_get gk)]
      rw [as0 hσ2, nD_erase]
      try simp only [rn_op2, rn_cb, rn_nil, rn_cons, rn_un, rn_i2, rn_addI, rn_mul, rn_ci, rn_k, rn_var, rn_bm, rn_sl, rn_pNo, rn_pSome, rn_tBl, rn_tNt, rn_tAn, rn_tOo, rn_tTru, rn_and, rn_or, rn_not, rn_if, rn_chain, rn_rep, rn_kw, rn_mut, rn_lst, rn_ls, rn_tup, rn_app, rn_setM, rn_ixM, rn_ixL, rn_ixT, rn_lenL, rn_lenT, rn_lenM, rn_min2, rn_max2, rn_divmod, rn_eqI, rn_neI, rn_isN, rn_notN, rn_isB, rn_notB, rn_intI, rn_intB, rn_tupL, rn_tupT, rn_tupM, rn_iseq, rn_ien, rn_tYes, dTr_bl, dTr_int, dTr_non, dTr_lst, rn_dk, rn_fld, rn_setFld, rn_meth, ck_I, oks_setFld_iff, oks_augFld_iff, oks_par_two, rn_lenS, rn_countS, ck_L, ck_S, exists_eq, exists_eq', MO.lst.injEq, oks_seq_iff, oks_set_iff, oks_drop_iff, oks_ret_iff, oks_retN_iff, oks_aug_iff, oks_asg_iff, oks_setIx_iff, oks_nx, oks_brk, oks_cnt, nxt_nx, nxt_rt, tgt1, tgt2, tgt3, List.getElem?_cons_zero, List.getElem?_cons_succ, Option.bind_some, id, Option.some.injEq, exists_eq_left', List.set_cons_succ, List.set_cons_zero, D.bl.injEq, D.int.injEq, SR.nx.injEq, SR.rt.injEq, true_and, and_true, if_true, if_false, Bool.not_true, Bool.not_false, Bool.false_eq_true, Bool.true_eq_false, decide_eq_true_eq, Bool.not_eq_true', decide_eq_false_iff_not, nxt_ex, eq_self, not_true_eq_false, not_false_eq_true]
      refine ⟨_, ag1 hσ2, Nat.lt_of_le_of_lt (by rw [nD_len]; exact Nat.le_trans (by omega) n1) (by decide), ?_⟩
      rw [as1 hσ2]
      refine ⟨guard_nil _, (pool.eraseIdx k).length, by rw [List.length_eraseIdx, if_pos hk]; omega, rfl, pool.eraseIdx k, dr ++ [pool[k]], σ', rfl, ?_, ?_, by rw [nD_app]; rfl⟩
      · rw [List.append_assoc]
        exact (List.Perm.append_left dr (erase_perm gk)).trans hp
      · rw [List.length_append]
        exact drw.trans c21 dr2
theorem source_ok {z : Int} {μ : Mu} {Q : D → Mu → Prop} (q : ∀ a, Q (.mref μ.length) (μ ++ [some (.lst [.int a, .int (z % 2147483647), .int 0])])) : Ok (d_L_source [.int z]) μ Q := by
  refine denK_ok ?_
  unfold g_L_source
  try simp only [rn_op2, rn_cb, rn_nil, rn_cons, rn_un, rn_i2, rn_addI, rn_mul, rn_ci, rn_k, rn_var, rn_bm, rn_sl, rn_pNo, rn_pSome, rn_tBl, rn_tNt, rn_tAn, rn_tOo, rn_tTru, rn_and, rn_or, rn_not, rn_if, rn_chain, rn_rep, rn_kw, rn_mut, rn_lst, rn_ls, rn_tup, rn_app, rn_setM, rn_ixM, rn_ixL, rn_ixT, rn_lenL, rn_lenT, rn_lenM, rn_min2, rn_max2, rn_divmod, rn_eqI, rn_neI, rn_isN, rn_notN, rn_isB, rn_notB, rn_intI, rn_intB, rn_tupL, rn_tupT, rn_tupM, rn_iseq, rn_ien, rn_tYes, dTr_bl, dTr_int, dTr_non, dTr_lst, rn_dk, rn_fld, rn_setFld, rn_meth, ck_I, oks_setFld_iff, oks_augFld_iff, oks_par_two, rn_lenS, rn_countS, ck_L, ck_S, exists_eq, exists_eq', MO.lst.injEq, oks_seq_iff, oks_set_iff, oks_drop_iff, oks_ret_iff, oks_retN_iff, oks_aug_iff, oks_asg_iff, oks_setIx_iff, oks_nx, oks_brk, oks_cnt, nxt_nx, nxt_rt, tgt1, tgt2, tgt3, List.getElem?_cons_zero, List.getElem?_cons_succ, Option.bind_some, id, Option.some.injEq, exists_eq_left', List.set_cons_succ, List.set_cons_zero, D.bl.injEq, D.int.injEq, SR.nx.injEq, SR.rt.injEq, true_and, and_true, if_true, if_false, Bool.not_true, Bool.not_false, Bool.false_eq_true, Bool.true_eq_false, decide_eq_true_eq, Bool.not_eq_true', decide_eq_false_iff_not, nxt_ex, eq_self, not_true_eq_false, not_false_eq_true, st0, List.map_cons, List.map_nil, List.length_cons, List.length_nil, List.replicate, List.cons_append, List.nil_append, Nat.reduceAdd, Nat.reduceSub, Nat.zero_add, Nat.sub_self]
  exact ⟨⟨by decide, by decide, by decide⟩, ⟨by split <;> decide, by split <;> decide⟩, by decide, by decide, _, rfl, q _⟩
theorem src_new {z b : Int} {μ : Mu} : Src (μ ++ [some (.lst [.int z, .int b, .int 0])]) μ.length b 0 := ⟨z, by rw [List.getElem?_append_right (Nat.le_refl _), Nat.sub_self]; rfl⟩
theorem share_ok {h n : Nat} {b c top N : Int} {μ : Mu} (hN : (n : Int) = N) (hs : Src μ h b c) (b0 : 0 ≤ b) (b1 : b < 2 ^ 31) (h0 : 0 ≤ c) (h1 : c < 2 ^ 40) (n1 : n ≤ 1000) (t0 : 0 < top) (t1 : top ≤ 10 ^ 9) :
    Ok (d_L_share [.mref h, .int N, .int top]) μ fun d μ1 => Drawn μ μ1 h b c (2 * n) ∧ ∃ xs : List Int, d = .tup (xs.map .int) ∧ xs.length = n ∧ ∀ x ∈ xs, 0 ≤ x ∧ x < top := by
  have hl := hs.lt
  refine denC_flat ?_
  unfold g_L_share
  try simp only [rn_op2, rn_cb, rn_nil, rn_cons, rn_un, rn_i2, rn_addI, rn_mul, rn_ci, rn_k, rn_var, rn_bm, rn_sl, rn_pNo, rn_pSome, rn_tBl, rn_tNt, rn_tAn, rn_tOo, rn_tTru, rn_and, rn_or, rn_not, rn_if, rn_chain, rn_rep, rn_kw, rn_mut, rn_lst, rn_ls, rn_tup, rn_app, rn_setM, rn_ixM, rn_ixL, rn_ixT, rn_lenL, rn_lenT, rn_lenM, rn_min2, rn_max2, rn_divmod, rn_eqI, rn_neI, rn_isN, rn_notN, rn_isB, rn_notB, rn_intI, rn_intB, rn_tupL, rn_tupT, rn_tupM, rn_iseq, rn_ien, rn_tYes, dTr_bl, dTr_int, dTr_non, dTr_lst, rn_dk, rn_fld, rn_setFld, rn_meth, ck_I, oks_setFld_iff, oks_augFld_iff, oks_par_two, rn_lenS, rn_countS, ck_L, ck_S, exists_eq, exists_eq', MO.lst.injEq, oks_seq_iff, oks_set_iff, oks_drop_iff, oks_ret_iff, oks_retN_iff, oks_aug_iff, oks_asg_iff, oks_setIx_iff, oks_nx, oks_brk, oks_cnt, nxt_nx, nxt_rt, tgt1, tgt2, tgt3, List.getElem?_cons_zero, List.getElem?_cons_succ, Option.bind_some, id, Option.some.injEq, exists_eq_left', List.set_cons_succ, List.set_cons_zero, D.bl.injEq, D.int.injEq, SR.nx.injEq, SR.rt.injEq, true_and, and_true, if_true, if_false, Bool.not_true, Bool.not_false, Bool.false_eq_true, Bool.true_eq_false, decide_eq_true_eq, Bool.not_eq_true', decide_eq_false_iff_not, nxt_ex, eq_self, not_true_eq_false, not_false_eq_true, st0, List.map_cons, List.map_nil, List.length_cons, List.length_nil, List.replicate, List.cons_append, List.nil_append, Nat.reduceAdd, Nat.reduceSub, Nat.zero_add, Nat.sub_self]
  refine rn_lc (fun items gs k acc μk => gs = [] ∧ items = upto 0 n ∧ ∃ xs : List Int, acc = xs.map .int ∧ xs.length = k ∧ (∀ x ∈ xs, 0 ≤ x ∧ x < top) ∧ Drawn μ μk h b c (2 * k)) ?_
  rw [rn_rgV (n := N) rfl (by omega) (by omega), ← hN, Int.toNat_natCast]
  refine ⟨guard_nil _, ⟨rfl, rfl, [], rfl, rfl, by simp, Drawn.zero hs h0⟩, ?_, ?_⟩
  · rintro i d acc μk hd ⟨_, _, xs, rfl, rfl, hx, dr⟩
    obtain ⟨hi, rfl⟩ := upto_getI hd
    obtain ⟨c2, s2, c20, c21⟩ := dr.src hl
    refine ok_turnR rfl ?_
    rw [rn_tYes, if_pos rfl]
    try simp only [rn_op2, rn_cb, rn_nil, rn_cons, rn_un, rn_i2, rn_addI, rn_mul, rn_ci, rn_k, rn_var, rn_bm, rn_sl, rn_pNo, rn_pSome, rn_tBl, rn_tNt, rn_tAn, rn_tOo, rn_tTru, rn_and, rn_or, rn_not, rn_if, rn_chain, rn_rep, rn_kw, rn_mut, rn_lst, rn_ls, rn_tup, rn_app, rn_setM, rn_ixM, rn_ixL, rn_ixT, rn_lenL, rn_lenT, rn_lenM, rn_min2, rn_max2, rn_divmod, rn_eqI, rn_neI, rn_isN, rn_notN, rn_isB, rn_notB, rn_intI, rn_intB, rn_tupL, rn_tupT, rn_tupM, rn_iseq, rn_ien, rn_tYes, dTr_bl, dTr_int, dTr_non, dTr_lst, rn_dk, rn_fld, rn_setFld, rn_meth, ck_I, oks_setFld_iff, oks_augFld_iff, oks_par_two, rn_lenS, rn_countS, ck_L, ck_S, exists_eq, exists_eq', MO.lst.injEq, oks_seq_iff, oks_set_iff, oks_drop_iff, oks_ret_iff, oks_retN_iff, oks_aug_iff, oks_asg_iff, oks_setIx_iff, oks_nx, oks_brk, oks_cnt, nxt_nx, nxt_rt, tgt1, tgt2, tgt3, List.getElem?_cons_zero, List.getElem?_cons_succ, Option.bind_some, id, Option.some.injEq, exists_eq_left', List.set_cons_succ, List.set_cons_zero, D.bl.injEq, D.int.injEq, SR.nx.injEq, SR.rt.injEq, true_and, and_true, if_true, if_false, Bool.not_true, Bool.not_false, Bool.false_eq_true, Bool.true_eq_false, decide_eq_true_eq, Bool.not_eq_true', decide_eq_false_iff_not, nxt_ex, eq_self, not_true_eq_false, not_false_eq_true, st0, List.map_cons, List.map_nil, List.length_cons, List.length_nil, List.replicate, List.cons_append, List.nil_append, Nat.reduceAdd, Nat.reduceSub, Nat.zero_add, Nat.sub_self, wipeD, List.foldr]
    rw [rn_call]
    refine ⟨rfl, Ok.rn ((take_ok s2 b0 b1 c20 (by omega) t0 (smallS (by omega) (by omega))).imp ?_)⟩
    rintro d μ1 ⟨dr1, r, rfl, r0, r1⟩
    obtain ⟨c3, s3, c30, c31⟩ := (dr.trans c21 dr1).src hl
    rw [rn_call]
    refine ⟨rfl, Ok.rn ((take_ok s3 b0 b1 c30 (by omega) (by decide) (smallS (by decide) (by decide))).imp ?_)⟩
    rintro d μ2 ⟨dr2, s, rfl, s0, s1⟩
    try simp only [rn_op2, rn_cb, rn_nil, rn_cons, rn_un, rn_i2, rn_addI, rn_mul, rn_ci, rn_k, rn_var, rn_bm, rn_sl, rn_pNo, rn_pSome, rn_tBl, rn_tNt, rn_tAn, rn_tOo, rn_tTru, rn_and, rn_or, rn_not, rn_if, rn_chain, rn_rep, rn_kw, rn_mut, rn_lst, rn_ls, rn_tup, rn_app, rn_setM, rn_ixM, rn_ixL, rn_ixT, rn_lenL, rn_lenT, rn_lenM, rn_min2, rn_max2, rn_divmod, rn_eqI, rn_neI, rn_isN, rn_notN, rn_isB, rn_notB, rn_intI, rn_intB, rn_tupL, rn_tupT, rn_tupM, rn_iseq, rn_ien, rn_tYes, dTr_bl, dTr_int, dTr_non, dTr_lst, rn_dk, rn_fld, rn_setFld, rn_meth, ck_I, oks_setFld_iff, oks_augFld_iff, oks_par_two, rn_lenS, rn_countS, ck_L, ck_S, exists_eq, exists_eq', MO.lst.injEq, oks_seq_iff, oks_set_iff, oks_drop_iff, oks_ret_iff, oks_retN_iff, oks_aug_iff, oks_asg_iff, oks_setIx_iff, oks_nx, oks_brk, oks_cnt, nxt_nx, nxt_rt, tgt1, tgt2, tgt3, List.getElem?_cons_zero, List.getElem?_cons_succ, Option.bind_some, id, Option.some.injEq, exists_eq_left', List.set_cons_succ, List.set_cons_zero, D.bl.injEq, D.int.injEq, SR.nx.injEq, SR.rt.injEq, true_and, and_true, if_true, if_false, Bool.not_true, Bool.not_false, Bool.false_eq_true, Bool.true_eq_false, decide_eq_true_eq, Bool.not_eq_true', decide_eq_false_iff_not, nxt_ex, eq_self, not_true_eq_false, not_false_eq_true]
    refine ⟨logs (by omega) (by omega), ⟨guard_nil _, Nat.lt_of_lt_of_le (by rw [List.length_map]; omega) (by decide : 1000 ≤ sizeLine)⟩, xs ++ [r * s], by simp, by simp, ?_, (dr.trans c21 dr1).trans c31 dr2⟩
    intro x hx2
    rcases List.mem_append.mp hx2 with hx2 | hx2
    · exact hx x hx2
    · have : s = 0 ∨ s = 1 := by omega
      rw [List.mem_singleton] at hx2
      rcases this with rfl | rfl <;> omega
  · rintro acc μk ⟨_, _, xs, rfl, hk, hx, dr⟩
    rw [upto_lenN] at hk
    try simp only [rn_op2, rn_cb, rn_nil, rn_cons, rn_un, rn_i2, rn_addI, rn_mul, rn_ci, rn_k, rn_var, rn_bm, rn_sl, rn_pNo, rn_pSome, rn_tBl, rn_tNt, rn_tAn, rn_tOo, rn_tTru, rn_and, rn_or, rn_not, rn_if, rn_chain, rn_rep, rn_kw, rn_mut, rn_lst, rn_ls, rn_tup, rn_app, rn_setM, rn_ixM, rn_ixL, rn_ixT, rn_lenL, rn_lenT, rn_lenM, rn_min2, rn_max2, rn_divmod, rn_eqI, rn_neI, rn_isN, rn_notN, rn_isB, rn_notB, rn_intI, rn_intB, rn_tupL, rn_tupT, rn_tupM, rn_iseq, rn_ien, rn_tYes, dTr_bl, dTr_int, dTr_non, dTr_lst, rn_dk, rn_fld, rn_setFld, rn_meth, ck_I, oks_setFld_iff, oks_augFld_iff, oks_par_two, rn_lenS, rn_countS, ck_L, ck_S, exists_eq, exists_eq', MO.lst.injEq, oks_seq_iff, oks_set_iff, oks_drop_iff, oks_ret_iff, oks_retN_iff, oks_aug_iff, oks_asg_iff, oks_setIx_iff, oks_nx, oks_brk, oks_cnt, nxt_nx, nxt_rt, tgt1, tgt2, tgt3, List.getElem?_cons_zero, List.getElem?_cons_succ, Option.bind_some, id, Option.some.injEq, exists_eq_left', List.set_cons_succ, List.set_cons_zero, D.bl.injEq, D.int.injEq, SR.nx.injEq, SR.rt.injEq, true_and, and_true, if_true, if_false, Bool.not_true, Bool.not_false, Bool.false_eq_true, Bool.true_eq_false, decide_eq_true_eq, Bool.not_eq_true', decide_eq_false_iff_not, nxt_ex, eq_self, not_true_eq_false, not_false_eq_true]
    refine ⟨belL_ints _ _, dr.len, dr.low, ?_, xs, rfl, hk, hx⟩
    have e : ((upto 0 n, ([] : List (Nat × List D))).1).length = n := upto_lenN
    rw [e] at dr
    exact dr
end TX

namespace TX
open PySem PySem.Spec L2 DL
/-! ## checks of rankings and bundles; items of prefixes -/
abbrev iD (xs : List Int) : List D := xs.map D.int
theorem iD_len (xs : List Int) : (iD xs).length = xs.length := List.length_map _
theorem iD_get {xs : List Int} {i : Nat} {x : Int} (h : xs[i]? = some x) : (iD xs)[i]? = some (.int x) := by simp [h]
theorem isbundle_ok {xs : List Int} {n : Nat} (hl : xs.length = n) (hx : ∀ x ∈ xs, 0 ≤ x) : Gives d_P_is_bundle [.tup (iD xs), .int n] (.bl true) := by
  refine gives_rt (fun _ => trivial) fun μ => ?_
  unfold g_P_is_bundle
  try simp only [rn_op2, rn_cb, rn_nil, rn_cons, rn_un, rn_i2, rn_addI, rn_mul, rn_ci, rn_k, rn_var, rn_bm, rn_sl, rn_pNo, rn_pSome, rn_tBl, rn_tNt, rn_tAn, rn_tOo, rn_tTru, rn_and, rn_or, rn_not, rn_if, rn_chain, rn_rep, rn_kw, rn_mut, rn_lst, rn_ls, rn_tup, rn_app, rn_setM, rn_ixM, rn_ixL, rn_ixT, rn_lenL, rn_lenT, rn_lenM, rn_min2, rn_max2, rn_divmod, rn_eqI, rn_neI, rn_isN, rn_notN, rn_isB, rn_notB, rn_intI, rn_intB, rn_tupL, rn_tupT, rn_tupM, rn_iseq, rn_ien, rn_tYes, dTr_bl, dTr_int, dTr_non, dTr_lst, rn_dk, rn_fld, rn_setFld, rn_meth, ck_I, oks_setFld_iff, oks_augFld_iff, oks_par_two, rn_lenS, rn_countS, ck_L, ck_S, exists_eq, exists_eq', MO.lst.injEq, oks_seq_iff, oks_set_iff, oks_drop_iff, oks_ret_iff, oks_retN_iff, oks_aug_iff, oks_asg_iff, oks_setIx_iff, oks_nx, oks_brk, oks_cnt, nxt_nx, nxt_rt, tgt1, tgt2, tgt3, List.getElem?_cons_zero, List.getElem?_cons_succ, Option.bind_some, id, Option.some.injEq, exists_eq_left', List.set_cons_succ, List.set_cons_zero, D.bl.injEq, D.int.injEq, SR.nx.injEq, SR.rt.injEq, true_and, and_true, if_true, if_false, Bool.not_true, Bool.not_false, Bool.false_eq_true, Bool.true_eq_false, decide_eq_true_eq, Bool.not_eq_true', decide_eq_false_iff_not, nxt_ex, eq_self, not_true_eq_false, not_false_eq_true, st0, List.map_cons, List.map_nil, List.length_cons, List.length_nil, List.replicate, List.cons_append, List.nil_append, Nat.reduceAdd, Nat.reduceSub, Nat.zero_add, Nat.sub_self]
  rw [oks_if_iff]
  try simp only [rn_op2, rn_cb, rn_nil, rn_cons, rn_un, rn_i2, rn_addI, rn_mul, rn_ci, rn_k, rn_var, rn_bm, rn_sl, rn_pNo, rn_pSome, rn_tBl, rn_tNt, rn_tAn, rn_tOo, rn_tTru, rn_and, rn_or, rn_not, rn_if, rn_chain, rn_rep, rn_kw, rn_mut, rn_lst, rn_ls, rn_tup, rn_app, rn_setM, rn_ixM, rn_ixL, rn_ixT, rn_lenL, rn_lenT, rn_lenM, rn_min2, rn_max2, rn_divmod, rn_eqI, rn_neI, rn_isN, rn_notN, rn_isB, rn_notB, rn_intI, rn_intB, rn_tupL, rn_tupT, rn_tupM, rn_iseq, rn_ien, rn_tYes, dTr_bl, dTr_int, dTr_non, dTr_lst, rn_dk, rn_fld, rn_setFld, rn_meth, ck_I, oks_setFld_iff, oks_augFld_iff, oks_par_two, rn_lenS, rn_countS, ck_L, ck_S, exists_eq, exists_eq', MO.lst.injEq, oks_seq_iff, oks_set_iff, oks_drop_iff, oks_ret_iff, oks_retN_iff, oks_aug_iff, oks_asg_iff, oks_setIx_iff, oks_nx, oks_brk, oks_cnt, nxt_nx, nxt_rt, tgt1, tgt2, tgt3, List.getElem?_cons_zero, List.getElem?_cons_succ, Option.bind_some, id, Option.some.injEq, exists_eq_left', List.set_cons_succ, List.set_cons_zero, D.bl.injEq, D.int.injEq, SR.nx.injEq, SR.rt.injEq, true_and, and_true, if_true, if_false, Bool.not_true, Bool.not_false, Bool.false_eq_true, Bool.true_eq_false, decide_eq_true_eq, Bool.not_eq_true', decide_eq_false_iff_not, nxt_ex, eq_self, not_true_eq_false, not_false_eq_true]
  rw [rn_isi_of (b := true) rfl]
  try simp only [rn_op2, rn_cb, rn_nil, rn_cons, rn_un, rn_i2, rn_addI, rn_mul, rn_ci, rn_k, rn_var, rn_bm, rn_sl, rn_pNo, rn_pSome, rn_tBl, rn_tNt, rn_tAn, rn_tOo, rn_tTru, rn_and, rn_or, rn_not, rn_if, rn_chain, rn_rep, rn_kw, rn_mut, rn_lst, rn_ls, rn_tup, rn_app, rn_setM, rn_ixM, rn_ixL, rn_ixT, rn_lenL, rn_lenT, rn_lenM, rn_min2, rn_max2, rn_divmod, rn_eqI, rn_neI, rn_isN, rn_notN, rn_isB, rn_notB, rn_intI, rn_intB, rn_tupL, rn_tupT, rn_tupM, rn_iseq, rn_ien, rn_tYes, dTr_bl, dTr_int, dTr_non, dTr_lst, rn_dk, rn_fld, rn_setFld, rn_meth, ck_I, oks_setFld_iff, oks_augFld_iff, oks_par_two, rn_lenS, rn_countS, ck_L, ck_S, exists_eq, exists_eq', MO.lst.injEq, oks_seq_iff, oks_set_iff, oks_drop_iff, oks_ret_iff, oks_retN_iff, oks_aug_iff, oks_asg_iff, oks_setIx_iff, oks_nx, oks_brk, oks_cnt, nxt_nx, nxt_rt, tgt1, tgt2, tgt3, List.getElem?_cons_zero, List.getElem?_cons_succ, Option.bind_some, id, Option.some.injEq, exists_eq_left', List.set_cons_succ, List.set_cons_zero, D.bl.injEq, D.int.injEq, SR.nx.injEq, SR.rt.injEq, true_and, and_true, if_true, if_false, Bool.not_true, Bool.not_false, Bool.false_eq_true, Bool.true_eq_false, decide_eq_true_eq, Bool.not_eq_true', decide_eq_false_iff_not, nxt_ex, eq_self, not_true_eq_false, not_false_eq_true]
  rw [if_neg (by simp [hl])]
  rw [rn_all]
  try simp only [rn_op2, rn_cb, rn_nil, rn_cons, rn_un, rn_i2, rn_addI, rn_mul, rn_ci, rn_k, rn_var, rn_bm, rn_sl, rn_pNo, rn_pSome, rn_tBl, rn_tNt, rn_tAn, rn_tOo, rn_tTru, rn_and, rn_or, rn_not, rn_if, rn_chain, rn_rep, rn_kw, rn_mut, rn_lst, rn_ls, rn_tup, rn_app, rn_setM, rn_ixM, rn_ixL, rn_ixT, rn_lenL, rn_lenT, rn_lenM, rn_min2, rn_max2, rn_divmod, rn_eqI, rn_neI, rn_isN, rn_notN, rn_isB, rn_notB, rn_intI, rn_intB, rn_tupL, rn_tupT, rn_tupM, rn_iseq, rn_ien, rn_tYes, dTr_bl, dTr_int, dTr_non, dTr_lst, rn_dk, rn_fld, rn_setFld, rn_meth, ck_I, oks_setFld_iff, oks_augFld_iff, oks_par_two, rn_lenS, rn_countS, ck_L, ck_S, exists_eq, exists_eq', MO.lst.injEq, oks_seq_iff, oks_set_iff, oks_drop_iff, oks_ret_iff, oks_retN_iff, oks_aug_iff, oks_asg_iff, oks_setIx_iff, oks_nx, oks_brk, oks_cnt, nxt_nx, nxt_rt, tgt1, tgt2, tgt3, List.getElem?_cons_zero, List.getElem?_cons_succ, Option.bind_some, id, Option.some.injEq, exists_eq_left', List.set_cons_succ, List.set_cons_zero, D.bl.injEq, D.int.injEq, SR.nx.injEq, SR.rt.injEq, true_and, and_true, if_true, if_false, Bool.not_true, Bool.not_false, Bool.false_eq_true, Bool.true_eq_false, decide_eq_true_eq, Bool.not_eq_true', decide_eq_false_iff_not, nxt_ex, eq_self, not_true_eq_false, not_false_eq_true]
  obtain ⟨bs, h1, h2⟩ := eachQ_all (cds := []) (xs := iD xs) (q := (qAnd (qCall 1 (qCons (fun ds => ds[0]?) fun x => some []) (qAnd (qIsi "int" fun ds => ds[0]?) (qNot (qIsi "bool" fun ds => ds[0]?)))) (qI2 (fun i j => some (D.bl (decide (i ≥ j)))) (fun ds => ds[0]?) fun x => some (D.int 0)))) (fun d hd => by
    obtain ⟨x, hm, rfl⟩ := List.mem_map.mp hd
    have : decide (x ≥ 0) = true := decide_eq_true (hx x hm)
    show (match (some (D.bl (decide (x ≥ 0))) : Option D) with | some (D.bl r) => some (D.bl r) | _ => none) = some (D.bl true)
    rw [this])
  exact ⟨_, rfl, _, rfl, bs, h1, h2⟩
theorem arekinds_ok {r : List Nat} {n : Nat} (hr : ∀ k ∈ r, k < n) : Gives d_P_are_kinds [.tup (nD r), .int n] (.bl true) := by
  refine gives_rt (fun _ => trivial) fun μ => ?_
  unfold g_P_are_kinds
  try simp only [rn_op2, rn_cb, rn_nil, rn_cons, rn_un, rn_i2, rn_addI, rn_mul, rn_ci, rn_k, rn_var, rn_bm, rn_sl, rn_pNo, rn_pSome, rn_tBl, rn_tNt, rn_tAn, rn_tOo, rn_tTru, rn_and, rn_or, rn_not, rn_if, rn_chain, rn_rep, rn_kw, rn_mut, rn_lst, rn_ls, rn_tup, rn_app, rn_setM, rn_ixM, rn_ixL, rn_ixT, rn_lenL, rn_lenT, rn_lenM, rn_min2, rn_max2, rn_divmod, rn_eqI, rn_neI, rn_isN, rn_notN, rn_isB, rn_notB, rn_intI, rn_intB, rn_tupL, rn_tupT, rn_tupM, rn_iseq, rn_ien, rn_tYes, dTr_bl, dTr_int, dTr_non, dTr_lst, rn_dk, rn_fld, rn_setFld, rn_meth, ck_I, oks_setFld_iff, oks_augFld_iff, oks_par_two, rn_lenS, rn_countS, ck_L, ck_S, exists_eq, exists_eq', MO.lst.injEq, oks_seq_iff, oks_set_iff, oks_drop_iff, oks_ret_iff, oks_retN_iff, oks_aug_iff, oks_asg_iff, oks_setIx_iff, oks_nx, oks_brk, oks_cnt, nxt_nx, nxt_rt, tgt1, tgt2, tgt3, List.getElem?_cons_zero, List.getElem?_cons_succ, Option.bind_some, id, Option.some.injEq, exists_eq_left', List.set_cons_succ, List.set_cons_zero, D.bl.injEq, D.int.injEq, SR.nx.injEq, SR.rt.injEq, true_and, and_true, if_true, if_false, Bool.not_true, Bool.not_false, Bool.false_eq_true, Bool.true_eq_false, decide_eq_true_eq, Bool.not_eq_true', decide_eq_false_iff_not, nxt_ex, eq_self, not_true_eq_false, not_false_eq_true, st0, List.map_cons, List.map_nil, List.length_cons, List.length_nil, List.replicate, List.cons_append, List.nil_append, Nat.reduceAdd, Nat.reduceSub, Nat.zero_add, Nat.sub_self]
  refine oks_forR (fun items gs k sl μk => gs = [] ∧ items = nD r ∧ (∃ x, sl = [some (.tup (nD r)), some (.int n), x]) ∧ μk = μ) ?_
  rw [rn_iseqV rfl rfl]
  refine ⟨guard_nil _, ⟨rfl, rfl, ⟨none, rfl⟩, rfl⟩, ?_, ?_⟩
  · rintro i d sl μ1 hd ⟨_, _, ⟨x, rfl⟩, rfl⟩
    obtain ⟨y, hy, rfl⟩ := List.mem_map.mp (List.mem_of_getElem? hd)
    obtain ⟨k, hk, rfl⟩ := List.mem_map.mp hy
    have hk := hr k hk
    refine ⟨_, rfl, ?_⟩
    rw [oks_if_iff]
    try simp only [rn_op2, rn_cb, rn_nil, rn_cons, rn_un, rn_i2, rn_addI, rn_mul, rn_ci, rn_k, rn_var, rn_bm, rn_sl, rn_pNo, rn_pSome, rn_tBl, rn_tNt, rn_tAn, rn_tOo, rn_tTru, rn_and, rn_or, rn_not, rn_if, rn_chain, rn_rep, rn_kw, rn_mut, rn_lst, rn_ls, rn_tup, rn_app, rn_setM, rn_ixM, rn_ixL, rn_ixT, rn_lenL, rn_lenT, rn_lenM, rn_min2, rn_max2, rn_divmod, rn_eqI, rn_neI, rn_isN, rn_notN, rn_isB, rn_notB, rn_intI, rn_intB, rn_tupL, rn_tupT, rn_tupM, rn_iseq, rn_ien, rn_tYes, dTr_bl, dTr_int, dTr_non, dTr_lst, rn_dk, rn_fld, rn_setFld, rn_meth, ck_I, oks_setFld_iff, oks_augFld_iff, oks_par_two, rn_lenS, rn_countS, ck_L, ck_S, exists_eq, exists_eq', MO.lst.injEq, oks_seq_iff, oks_set_iff, oks_drop_iff, oks_ret_iff, oks_retN_iff, oks_aug_iff, oks_asg_iff, oks_setIx_iff, oks_nx, oks_brk, oks_cnt, nxt_nx, nxt_rt, tgt1, tgt2, tgt3, List.getElem?_cons_zero, List.getElem?_cons_succ, Option.bind_some, id, Option.some.injEq, exists_eq_left', List.set_cons_succ, List.set_cons_zero, D.bl.injEq, D.int.injEq, SR.nx.injEq, SR.rt.injEq, true_and, and_true, if_true, if_false, Bool.not_true, Bool.not_false, Bool.false_eq_true, Bool.true_eq_false, decide_eq_true_eq, Bool.not_eq_true', decide_eq_false_iff_not, nxt_ex, eq_self, not_true_eq_false, not_false_eq_true]
    rw [rn_isi_of (b := true) rfl]
    try simp only [rn_op2, rn_cb, rn_nil, rn_cons, rn_un, rn_i2, rn_addI, rn_mul, rn_ci, rn_k, rn_var, rn_bm, rn_sl, rn_pNo, rn_pSome, rn_tBl, rn_tNt, rn_tAn, rn_tOo, rn_tTru, rn_and, rn_or, rn_not, rn_if, rn_chain, rn_rep, rn_kw, rn_mut, rn_lst, rn_ls, rn_tup, rn_app, rn_setM, rn_ixM, rn_ixL, rn_ixT, rn_lenL, rn_lenT, rn_lenM, rn_min2, rn_max2, rn_divmod, rn_eqI, rn_neI, rn_isN, rn_notN, rn_isB, rn_notB, rn_intI, rn_intB, rn_tupL, rn_tupT, rn_tupM, rn_iseq, rn_ien, rn_tYes, dTr_bl, dTr_int, dTr_non, dTr_lst, rn_dk, rn_fld, rn_setFld, rn_meth, ck_I, oks_setFld_iff, oks_augFld_iff, oks_par_two, rn_lenS, rn_countS, ck_L, ck_S, exists_eq, exists_eq', MO.lst.injEq, oks_seq_iff, oks_set_iff, oks_drop_iff, oks_ret_iff, oks_retN_iff, oks_aug_iff, oks_asg_iff, oks_setIx_iff, oks_nx, oks_brk, oks_cnt, nxt_nx, nxt_rt, tgt1, tgt2, tgt3, List.getElem?_cons_zero, List.getElem?_cons_succ, Option.bind_some, id, Option.some.injEq, exists_eq_left', List.set_cons_succ, List.set_cons_zero, D.bl.injEq, D.int.injEq, SR.nx.injEq, SR.rt.injEq, true_and, and_true, if_true, if_false, Bool.not_true, Bool.not_false, Bool.false_eq_true, Bool.true_eq_false, decide_eq_true_eq, Bool.not_eq_true', decide_eq_false_iff_not, nxt_ex, eq_self, not_true_eq_false, not_false_eq_true]
    rw [if_pos (by simp), if_neg (by simp; omega)]
    simp only [isBl, Bool.false_eq_true, if_false]
    exact ⟨guard_nil _, ⟨_, rfl⟩, rfl⟩
  · rintro sl μ1 ⟨_, _, ⟨x, rfl⟩, rfl⟩
    try simp only [rn_op2, rn_cb, rn_nil, rn_cons, rn_un, rn_i2, rn_addI, rn_mul, rn_ci, rn_k, rn_var, rn_bm, rn_sl, rn_pNo, rn_pSome, rn_tBl, rn_tNt, rn_tAn, rn_tOo, rn_tTru, rn_and, rn_or, rn_not, rn_if, rn_chain, rn_rep, rn_kw, rn_mut, rn_lst, rn_ls, rn_tup, rn_app, rn_setM, rn_ixM, rn_ixL, rn_ixT, rn_lenL, rn_lenT, rn_lenM, rn_min2, rn_max2, rn_divmod, rn_eqI, rn_neI, rn_isN, rn_notN, rn_isB, rn_notB, rn_intI, rn_intB, rn_tupL, rn_tupT, rn_tupM, rn_iseq, rn_ien, rn_tYes, dTr_bl, dTr_int, dTr_non, dTr_lst, rn_dk, rn_fld, rn_setFld, rn_meth, ck_I, oks_setFld_iff, oks_augFld_iff, oks_par_two, rn_lenS, rn_countS, ck_L, ck_S, exists_eq, exists_eq', MO.lst.injEq, oks_seq_iff, oks_set_iff, oks_drop_iff, oks_ret_iff, oks_retN_iff, oks_aug_iff, oks_asg_iff, oks_setIx_iff, oks_nx, oks_brk, oks_cnt, nxt_nx, nxt_rt, tgt1, tgt2, tgt3, List.getElem?_cons_zero, List.getElem?_cons_succ, Option.bind_some, id, Option.some.injEq, exists_eq_left', List.set_cons_succ, List.set_cons_zero, D.bl.injEq, D.int.injEq, SR.nx.injEq, SR.rt.injEq, true_and, and_true, if_true, if_false, Bool.not_true, Bool.not_false, Bool.false_eq_true, Bool.true_eq_false, decide_eq_true_eq, Bool.not_eq_true', decide_eq_false_iff_not, nxt_ex, eq_self, not_true_eq_false, not_false_eq_true]
theorem sort_nD {r : List Nat} {n : Nat} (hp : r.Perm (List.range n)) : (sortI (r.map fun k : Nat => (k : Int))) = (List.range n).map fun k : Nat => (k : Int) := by
  refine (sortI_of ?_ ?_).symm
  · exact (hp.map _).symm
  · refine List.pairwise_map.mpr ?_
    refine (List.pairwise_lt_range (n := n)).imp fun h => ?_
    omega
theorem islist_ok {r : List Nat} {n : Nat} (hp : r.Perm (List.range n)) (hn : n ≤ 1000) : Gives d_P_is_list [.tup (nD r), .int n] (.bl true) := by
  refine gives_rt (fun _ => trivial) fun μ => ?_
  unfold g_P_is_list
  try simp only [rn_op2, rn_cb, rn_nil, rn_cons, rn_un, rn_i2, rn_addI, rn_mul, rn_ci, rn_k, rn_var, rn_bm, rn_sl, rn_pNo, rn_pSome, rn_tBl, rn_tNt, rn_tAn, rn_tOo, rn_tTru, rn_and, rn_or, rn_not, rn_if, rn_chain, rn_rep, rn_kw, rn_mut, rn_lst, rn_ls, rn_tup, rn_app, rn_setM, rn_ixM, rn_ixL, rn_ixT, rn_lenL, rn_lenT, rn_lenM, rn_min2, rn_max2, rn_divmod, rn_eqI, rn_neI, rn_isN, rn_notN, rn_isB, rn_notB, rn_intI, rn_intB, rn_tupL, rn_tupT, rn_tupM, rn_iseq, rn_ien, rn_tYes, dTr_bl, dTr_int, dTr_non, dTr_lst, rn_dk, rn_fld, rn_setFld, rn_meth, ck_I, oks_setFld_iff, oks_augFld_iff, oks_par_two, rn_lenS, rn_countS, ck_L, ck_S, exists_eq, exists_eq', MO.lst.injEq, oks_seq_iff, oks_set_iff, oks_drop_iff, oks_ret_iff, oks_retN_iff, oks_aug_iff, oks_asg_iff, oks_setIx_iff, oks_nx, oks_brk, oks_cnt, nxt_nx, nxt_rt, tgt1, tgt2, tgt3, List.getElem?_cons_zero, List.getElem?_cons_succ, Option.bind_some, id, Option.some.injEq, exists_eq_left', List.set_cons_succ, List.set_cons_zero, D.bl.injEq, D.int.injEq, SR.nx.injEq, SR.rt.injEq, true_and, and_true, if_true, if_false, Bool.not_true, Bool.not_false, Bool.false_eq_true, Bool.true_eq_false, decide_eq_true_eq, Bool.not_eq_true', decide_eq_false_iff_not, nxt_ex, eq_self, not_true_eq_false, not_false_eq_true, st0, List.map_cons, List.map_nil, List.length_cons, List.length_nil, List.replicate, List.cons_append, List.nil_append, Nat.reduceAdd, Nat.reduceSub, Nat.zero_add, Nat.sub_self]
  rw [oks_if_iff]
  try simp only [rn_op2, rn_cb, rn_nil, rn_cons, rn_un, rn_i2, rn_addI, rn_mul, rn_ci, rn_k, rn_var, rn_bm, rn_sl, rn_pNo, rn_pSome, rn_tBl, rn_tNt, rn_tAn, rn_tOo, rn_tTru, rn_and, rn_or, rn_not, rn_if, rn_chain, rn_rep, rn_kw, rn_mut, rn_lst, rn_ls, rn_tup, rn_app, rn_setM, rn_ixM, rn_ixL, rn_ixT, rn_lenL, rn_lenT, rn_lenM, rn_min2, rn_max2, rn_divmod, rn_eqI, rn_neI, rn_isN, rn_notN, rn_isB, rn_notB, rn_intI, rn_intB, rn_tupL, rn_tupT, rn_tupM, rn_iseq, rn_ien, rn_tYes, dTr_bl, dTr_int, dTr_non, dTr_lst, rn_dk, rn_fld, rn_setFld, rn_meth, ck_I, oks_setFld_iff, oks_augFld_iff, oks_par_two, rn_lenS, rn_countS, ck_L, ck_S, exists_eq, exists_eq', MO.lst.injEq, oks_seq_iff, oks_set_iff, oks_drop_iff, oks_ret_iff, oks_retN_iff, oks_aug_iff, oks_asg_iff, oks_setIx_iff, oks_nx, oks_brk, oks_cnt, nxt_nx, nxt_rt, tgt1, tgt2, tgt3, List.getElem?_cons_zero, List.getElem?_cons_succ, Option.bind_some, id, Option.some.injEq, exists_eq_left', List.set_cons_succ, List.set_cons_zero, D.bl.injEq, D.int.injEq, SR.nx.injEq, SR.rt.injEq, true_and, and_true, if_true, if_false, Bool.not_true, Bool.not_false, Bool.false_eq_true, Bool.true_eq_false, decide_eq_true_eq, Bool.not_eq_true', decide_eq_false_iff_not, nxt_ex, eq_self, not_true_eq_false, not_false_eq_true]
  rw [rn_isi_of (b := true) rfl]
  try simp only [rn_op2, rn_cb, rn_nil, rn_cons, rn_un, rn_i2, rn_addI, rn_mul, rn_ci, rn_k, rn_var, rn_bm, rn_sl, rn_pNo, rn_pSome, rn_tBl, rn_tNt, rn_tAn, rn_tOo, rn_tTru, rn_and, rn_or, rn_not, rn_if, rn_chain, rn_rep, rn_kw, rn_mut, rn_lst, rn_ls, rn_tup, rn_app, rn_setM, rn_ixM, rn_ixL, rn_ixT, rn_lenL, rn_lenT, rn_lenM, rn_min2, rn_max2, rn_divmod, rn_eqI, rn_neI, rn_isN, rn_notN, rn_isB, rn_notB, rn_intI, rn_intB, rn_tupL, rn_tupT, rn_tupM, rn_iseq, rn_ien, rn_tYes, dTr_bl, dTr_int, dTr_non, dTr_lst, rn_dk, rn_fld, rn_setFld, rn_meth, ck_I, oks_setFld_iff, oks_augFld_iff, oks_par_two, rn_lenS, rn_countS, ck_L, ck_S, exists_eq, exists_eq', MO.lst.injEq, oks_seq_iff, oks_set_iff, oks_drop_iff, oks_ret_iff, oks_retN_iff, oks_aug_iff, oks_asg_iff, oks_setIx_iff, oks_nx, oks_brk, oks_cnt, nxt_nx, nxt_rt, tgt1, tgt2, tgt3, List.getElem?_cons_zero, List.getElem?_cons_succ, Option.bind_some, id, Option.some.injEq, exists_eq_left', List.set_cons_succ, List.set_cons_zero, D.bl.injEq, D.int.injEq, SR.nx.injEq, SR.rt.injEq, true_and, and_true, if_true, if_false, Bool.not_true, Bool.not_false, Bool.false_eq_true, Bool.true_eq_false, decide_eq_true_eq, Bool.not_eq_true', decide_eq_false_iff_not, nxt_ex, eq_self, not_true_eq_false, not_false_eq_true]
  rw [rnG2 (arekinds_ok fun k hk => List.mem_range.mp (hp.mem_iff.mp hk))]
  try simp only [rn_op2, rn_cb, rn_nil, rn_cons, rn_un, rn_i2, rn_addI, rn_mul, rn_ci, rn_k, rn_var, rn_bm, rn_sl, rn_pNo, rn_pSome, rn_tBl, rn_tNt, rn_tAn, rn_tOo, rn_tTru, rn_and, rn_or, rn_not, rn_if, rn_chain, rn_rep, rn_kw, rn_mut, rn_lst, rn_ls, rn_tup, rn_app, rn_setM, rn_ixM, rn_ixL, rn_ixT, rn_lenL, rn_lenT, rn_lenM, rn_min2, rn_max2, rn_divmod, rn_eqI, rn_neI, rn_isN, rn_notN, rn_isB, rn_notB, rn_intI, rn_intB, rn_tupL, rn_tupT, rn_tupM, rn_iseq, rn_ien, rn_tYes, dTr_bl, dTr_int, dTr_non, dTr_lst, rn_dk, rn_fld, rn_setFld, rn_meth, ck_I, oks_setFld_iff, oks_augFld_iff, oks_par_two, rn_lenS, rn_countS, ck_L, ck_S, exists_eq, exists_eq', MO.lst.injEq, oks_seq_iff, oks_set_iff, oks_drop_iff, oks_ret_iff, oks_retN_iff, oks_aug_iff, oks_asg_iff, oks_setIx_iff, oks_nx, oks_brk, oks_cnt, nxt_nx, nxt_rt, tgt1, tgt2, tgt3, List.getElem?_cons_zero, List.getElem?_cons_succ, Option.bind_some, id, Option.some.injEq, exists_eq_left', List.set_cons_succ, List.set_cons_zero, D.bl.injEq, D.int.injEq, SR.nx.injEq, SR.rt.injEq, true_and, and_true, if_true, if_false, Bool.not_true, Bool.not_false, Bool.false_eq_true, Bool.true_eq_false, decide_eq_true_eq, Bool.not_eq_true', decide_eq_false_iff_not, nxt_ex, eq_self, not_true_eq_false, not_false_eq_true]
  rw [rn_sortT (intsD_ints _)]
  try simp only [rn_op2, rn_cb, rn_nil, rn_cons, rn_un, rn_i2, rn_addI, rn_mul, rn_ci, rn_k, rn_var, rn_bm, rn_sl, rn_pNo, rn_pSome, rn_tBl, rn_tNt, rn_tAn, rn_tOo, rn_tTru, rn_and, rn_or, rn_not, rn_if, rn_chain, rn_rep, rn_kw, rn_mut, rn_lst, rn_ls, rn_tup, rn_app, rn_setM, rn_ixM, rn_ixL, rn_ixT, rn_lenL, rn_lenT, rn_lenM, rn_min2, rn_max2, rn_divmod, rn_eqI, rn_neI, rn_isN, rn_notN, rn_isB, rn_notB, rn_intI, rn_intB, rn_tupL, rn_tupT, rn_tupM, rn_iseq, rn_ien, rn_tYes, dTr_bl, dTr_int, dTr_non, dTr_lst, rn_dk, rn_fld, rn_setFld, rn_meth, ck_I, oks_setFld_iff, oks_augFld_iff, oks_par_two, rn_lenS, rn_countS, ck_L, ck_S, exists_eq, exists_eq', MO.lst.injEq, oks_seq_iff, oks_set_iff, oks_drop_iff, oks_ret_iff, oks_retN_iff, oks_aug_iff, oks_asg_iff, oks_setIx_iff, oks_nx, oks_brk, oks_cnt, nxt_nx, nxt_rt, tgt1, tgt2, tgt3, List.getElem?_cons_zero, List.getElem?_cons_succ, Option.bind_some, id, Option.some.injEq, exists_eq_left', List.set_cons_succ, List.set_cons_zero, D.bl.injEq, D.int.injEq, SR.nx.injEq, SR.rt.injEq, true_and, and_true, if_true, if_false, Bool.not_true, Bool.not_false, Bool.false_eq_true, Bool.true_eq_false, decide_eq_true_eq, Bool.not_eq_true', decide_eq_false_iff_not, nxt_ex, eq_self, not_true_eq_false, not_false_eq_true, rn_lstRg]
  have hrg : rgN (D.int n) = some (n : Int) := by
    show (if RgOk 0 (n : Int) then some (n : Int) else none) = _
    rw [if_pos]
    unfold RgOk
    omega
  refine ⟨_, hrg, ?_⟩
  rw [sort_nD hp, Int.toNat_natCast, upto_nD]
  try simp only [rn_op2, rn_cb, rn_nil, rn_cons, rn_un, rn_i2, rn_addI, rn_mul, rn_ci, rn_k, rn_var, rn_bm, rn_sl, rn_pNo, rn_pSome, rn_tBl, rn_tNt, rn_tAn, rn_tOo, rn_tTru, rn_and, rn_or, rn_not, rn_if, rn_chain, rn_rep, rn_kw, rn_mut, rn_lst, rn_ls, rn_tup, rn_app, rn_setM, rn_ixM, rn_ixL, rn_ixT, rn_lenL, rn_lenT, rn_lenM, rn_min2, rn_max2, rn_divmod, rn_eqI, rn_neI, rn_isN, rn_notN, rn_isB, rn_notB, rn_intI, rn_intB, rn_tupL, rn_tupT, rn_tupM, rn_iseq, rn_ien, rn_tYes, dTr_bl, dTr_int, dTr_non, dTr_lst, rn_dk, rn_fld, rn_setFld, rn_meth, ck_I, oks_setFld_iff, oks_augFld_iff, oks_par_two, rn_lenS, rn_countS, ck_L, ck_S, exists_eq, exists_eq', MO.lst.injEq, oks_seq_iff, oks_set_iff, oks_drop_iff, oks_ret_iff, oks_retN_iff, oks_aug_iff, oks_asg_iff, oks_setIx_iff, oks_nx, oks_brk, oks_cnt, nxt_nx, nxt_rt, tgt1, tgt2, tgt3, List.getElem?_cons_zero, List.getElem?_cons_succ, Option.bind_some, id, Option.some.injEq, exists_eq_left', List.set_cons_succ, List.set_cons_zero, D.bl.injEq, D.int.injEq, SR.nx.injEq, SR.rt.injEq, true_and, and_true, if_true, if_false, Bool.not_true, Bool.not_false, Bool.false_eq_true, Bool.true_eq_false, decide_eq_true_eq, Bool.not_eq_true', decide_eq_false_iff_not, nxt_ex, eq_self, not_true_eq_false, not_false_eq_true]
  rw [rn_eqD (nice_ints (by decide)) (nice_ints (by decide))]
  simp
theorem chkranking_ok {r : List Nat} {n : Nat} (hp : r.Perm (List.range n)) (hn : n ≤ 1000) : Gives d_P_check_ranking [.tup (nD r), .int n] .non := by
  refine gives_nx fun μ => ?_
  unfold g_P_check_ranking
  rw [oks_if_iff]
  try simp only [rn_op2, rn_cb, rn_nil, rn_cons, rn_un, rn_i2, rn_addI, rn_mul, rn_ci, rn_k, rn_var, rn_bm, rn_sl, rn_pNo, rn_pSome, rn_tBl, rn_tNt, rn_tAn, rn_tOo, rn_tTru, rn_and, rn_or, rn_not, rn_if, rn_chain, rn_rep, rn_kw, rn_mut, rn_lst, rn_ls, rn_tup, rn_app, rn_setM, rn_ixM, rn_ixL, rn_ixT, rn_lenL, rn_lenT, rn_lenM, rn_min2, rn_max2, rn_divmod, rn_eqI, rn_neI, rn_isN, rn_notN, rn_isB, rn_notB, rn_intI, rn_intB, rn_tupL, rn_tupT, rn_tupM, rn_iseq, rn_ien, rn_tYes, dTr_bl, dTr_int, dTr_non, dTr_lst, rn_dk, rn_fld, rn_setFld, rn_meth, ck_I, oks_setFld_iff, oks_augFld_iff, oks_par_two, rn_lenS, rn_countS, ck_L, ck_S, exists_eq, exists_eq', MO.lst.injEq, oks_seq_iff, oks_set_iff, oks_drop_iff, oks_ret_iff, oks_retN_iff, oks_aug_iff, oks_asg_iff, oks_setIx_iff, oks_nx, oks_brk, oks_cnt, nxt_nx, nxt_rt, tgt1, tgt2, tgt3, List.getElem?_cons_zero, List.getElem?_cons_succ, Option.bind_some, id, Option.some.injEq, exists_eq_left', List.set_cons_succ, List.set_cons_zero, D.bl.injEq, D.int.injEq, SR.nx.injEq, SR.rt.injEq, true_and, and_true, if_true, if_false, Bool.not_true, Bool.not_false, Bool.false_eq_true, Bool.true_eq_false, decide_eq_true_eq, Bool.not_eq_true', decide_eq_false_iff_not, nxt_ex, eq_self, not_true_eq_false, not_false_eq_true, st0, List.map_cons, List.map_nil, List.length_cons, List.length_nil, List.replicate, List.cons_append, List.nil_append, Nat.reduceAdd, Nat.reduceSub, Nat.zero_add, Nat.sub_self]
  rw [rnG2 (islist_ok hp hn)]
  try simp only [rn_op2, rn_cb, rn_nil, rn_cons, rn_un, rn_i2, rn_addI, rn_mul, rn_ci, rn_k, rn_var, rn_bm, rn_sl, rn_pNo, rn_pSome, rn_tBl, rn_tNt, rn_tAn, rn_tOo, rn_tTru, rn_and, rn_or, rn_not, rn_if, rn_chain, rn_rep, rn_kw, rn_mut, rn_lst, rn_ls, rn_tup, rn_app, rn_setM, rn_ixM, rn_ixL, rn_ixT, rn_lenL, rn_lenT, rn_lenM, rn_min2, rn_max2, rn_divmod, rn_eqI, rn_neI, rn_isN, rn_notN, rn_isB, rn_notB, rn_intI, rn_intB, rn_tupL, rn_tupT, rn_tupM, rn_iseq, rn_ien, rn_tYes, dTr_bl, dTr_int, dTr_non, dTr_lst, rn_dk, rn_fld, rn_setFld, rn_meth, ck_I, oks_setFld_iff, oks_augFld_iff, oks_par_two, rn_lenS, rn_countS, ck_L, ck_S, exists_eq, exists_eq', MO.lst.injEq, oks_seq_iff, oks_set_iff, oks_drop_iff, oks_ret_iff, oks_retN_iff, oks_aug_iff, oks_asg_iff, oks_setIx_iff, oks_nx, oks_brk, oks_cnt, nxt_nx, nxt_rt, tgt1, tgt2, tgt3, List.getElem?_cons_zero, List.getElem?_cons_succ, Option.bind_some, id, Option.some.injEq, exists_eq_left', List.set_cons_succ, List.set_cons_zero, D.bl.injEq, D.int.injEq, SR.nx.injEq, SR.rt.injEq, true_and, and_true, if_true, if_false, Bool.not_true, Bool.not_false, Bool.false_eq_true, Bool.true_eq_false, decide_eq_true_eq, Bool.not_eq_true', decide_eq_false_iff_not, nxt_ex, eq_self, not_true_eq_false, not_false_eq_true]
theorem kindsin_ok {xs : List D} (h : xs.length ≤ 60) : Gives d_P_kinds_in [.tup xs] (.int xs.length) := by
  refine gives_rt (fun _ => trivial) fun μ => ?_
  unfold g_P_kinds_in
  try simp only [rn_op2, rn_cb, rn_nil, rn_cons, rn_un, rn_i2, rn_addI, rn_mul, rn_ci, rn_k, rn_var, rn_bm, rn_sl, rn_pNo, rn_pSome, rn_tBl, rn_tNt, rn_tAn, rn_tOo, rn_tTru, rn_and, rn_or, rn_not, rn_if, rn_chain, rn_rep, rn_kw, rn_mut, rn_lst, rn_ls, rn_tup, rn_app, rn_setM, rn_ixM, rn_ixL, rn_ixT, rn_lenL, rn_lenT, rn_lenM, rn_min2, rn_max2, rn_divmod, rn_eqI, rn_neI, rn_isN, rn_notN, rn_isB, rn_notB, rn_intI, rn_intB, rn_tupL, rn_tupT, rn_tupM, rn_iseq, rn_ien, rn_tYes, dTr_bl, dTr_int, dTr_non, dTr_lst, rn_dk, rn_fld, rn_setFld, rn_meth, ck_I, oks_setFld_iff, oks_augFld_iff, oks_par_two, rn_lenS, rn_countS, ck_L, ck_S, exists_eq, exists_eq', MO.lst.injEq, oks_seq_iff, oks_set_iff, oks_drop_iff, oks_ret_iff, oks_retN_iff, oks_aug_iff, oks_asg_iff, oks_setIx_iff, oks_nx, oks_brk, oks_cnt, nxt_nx, nxt_rt, tgt1, tgt2, tgt3, List.getElem?_cons_zero, List.getElem?_cons_succ, Option.bind_some, id, Option.some.injEq, exists_eq_left', List.set_cons_succ, List.set_cons_zero, D.bl.injEq, D.int.injEq, SR.nx.injEq, SR.rt.injEq, true_and, and_true, if_true, if_false, Bool.not_true, Bool.not_false, Bool.false_eq_true, Bool.true_eq_false, decide_eq_true_eq, Bool.not_eq_true', decide_eq_false_iff_not, nxt_ex, eq_self, not_true_eq_false, not_false_eq_true, st0, List.map_cons, List.map_nil, List.length_cons, List.length_nil, List.replicate, List.cons_append, List.nil_append, Nat.reduceAdd, Nat.reduceSub, Nat.zero_add, Nat.sub_self]
  rw [rn_isi_of (b := true) rfl]
  try simp only [rn_op2, rn_cb, rn_nil, rn_cons, rn_un, rn_i2, rn_addI, rn_mul, rn_ci, rn_k, rn_var, rn_bm, rn_sl, rn_pNo, rn_pSome, rn_tBl, rn_tNt, rn_tAn, rn_tOo, rn_tTru, rn_and, rn_or, rn_not, rn_if, rn_chain, rn_rep, rn_kw, rn_mut, rn_lst, rn_ls, rn_tup, rn_app, rn_setM, rn_ixM, rn_ixL, rn_ixT, rn_lenL, rn_lenT, rn_lenM, rn_min2, rn_max2, rn_divmod, rn_eqI, rn_neI, rn_isN, rn_notN, rn_isB, rn_notB, rn_intI, rn_intB, rn_tupL, rn_tupT, rn_tupM, rn_iseq, rn_ien, rn_tYes, dTr_bl, dTr_int, dTr_non, dTr_lst, rn_dk, rn_fld, rn_setFld, rn_meth, ck_I, oks_setFld_iff, oks_augFld_iff, oks_par_two, rn_lenS, rn_countS, ck_L, ck_S, exists_eq, exists_eq', MO.lst.injEq, oks_seq_iff, oks_set_iff, oks_drop_iff, oks_ret_iff, oks_retN_iff, oks_aug_iff, oks_asg_iff, oks_setIx_iff, oks_nx, oks_brk, oks_cnt, nxt_nx, nxt_rt, tgt1, tgt2, tgt3, List.getElem?_cons_zero, List.getElem?_cons_succ, Option.bind_some, id, Option.some.injEq, exists_eq_left', List.set_cons_succ, List.set_cons_zero, D.bl.injEq, D.int.injEq, SR.nx.injEq, SR.rt.injEq, true_and, and_true, if_true, if_false, Bool.not_true, Bool.not_false, Bool.false_eq_true, Bool.true_eq_false, decide_eq_true_eq, Bool.not_eq_true', decide_eq_false_iff_not, nxt_ex, eq_self, not_true_eq_false, not_false_eq_true]
  rw [show min (xs.length : Int) 60 = xs.length by omega]
/-- the items of a bundle along a ranking -/
def along (b : List Int) (r : List Nat) : List Int := r.map fun k => b.getD k 0
theorem prefix_ok {b : List Int} {r : List Nat} (hr : ∀ k ∈ r, k < b.length) (hl : r.length ≤ 1000) : Gives d_P_prefix_items [.tup (iD b), .tup (nD r)] (.lst (iD (psums (along b r)))) := by
  refine gives_rt (fun n => belL_ints n _) fun μ => ?_
  unfold g_P_prefix_items
  try simp only [rn_op2, rn_cb, rn_nil, rn_cons, rn_un, rn_i2, rn_addI, rn_mul, rn_ci, rn_k, rn_var, rn_bm, rn_sl, rn_pNo, rn_pSome, rn_tBl, rn_tNt, rn_tAn, rn_tOo, rn_tTru, rn_and, rn_or, rn_not, rn_if, rn_chain, rn_rep, rn_kw, rn_mut, rn_lst, rn_ls, rn_tup, rn_app, rn_setM, rn_ixM, rn_ixL, rn_ixT, rn_lenL, rn_lenT, rn_lenM, rn_min2, rn_max2, rn_divmod, rn_eqI, rn_neI, rn_isN, rn_notN, rn_isB, rn_notB, rn_intI, rn_intB, rn_tupL, rn_tupT, rn_tupM, rn_iseq, rn_ien, rn_tYes, dTr_bl, dTr_int, dTr_non, dTr_lst, rn_dk, rn_fld, rn_setFld, rn_meth, ck_I, oks_setFld_iff, oks_augFld_iff, oks_par_two, rn_lenS, rn_countS, ck_L, ck_S, exists_eq, exists_eq', MO.lst.injEq, oks_seq_iff, oks_set_iff, oks_drop_iff, oks_ret_iff, oks_retN_iff, oks_aug_iff, oks_asg_iff, oks_setIx_iff, oks_nx, oks_brk, oks_cnt, nxt_nx, nxt_rt, tgt1, tgt2, tgt3, List.getElem?_cons_zero, List.getElem?_cons_succ, Option.bind_some, id, Option.some.injEq, exists_eq_left', List.set_cons_succ, List.set_cons_zero, D.bl.injEq, D.int.injEq, SR.nx.injEq, SR.rt.injEq, true_and, and_true, if_true, if_false, Bool.not_true, Bool.not_false, Bool.false_eq_true, Bool.true_eq_false, decide_eq_true_eq, Bool.not_eq_true', decide_eq_false_iff_not, nxt_ex, eq_self, not_true_eq_false, not_false_eq_true, st0, List.map_cons, List.map_nil, List.length_cons, List.length_nil, List.replicate, List.cons_append, List.nil_append, Nat.reduceAdd, Nat.reduceSub, Nat.zero_add, Nat.sub_self, rn_lstAcc]
  refine rn_lcM (items := nD r) (gs := []) (fun d => match d with | .int k => .int (b.getD k.toNat 0) | d => d) ?_ (guard_nil _) (by rw [nD_len]; exact Nat.le_trans hl (by decide)) ?_ ?_
  · rw [rn_iseqV rfl rfl]
    exact ⟨rfl, rfl⟩
  · intro d hd
    obtain ⟨y, hy, rfl⟩ := List.mem_map.mp hd
    obtain ⟨k, hk, rfl⟩ := List.mem_map.mp hy
    have hk := hr k hk
    refine ⟨_, rfl, ?_⟩
    try simp only [rn_op2, rn_cb, rn_nil, rn_cons, rn_un, rn_i2, rn_addI, rn_mul, rn_ci, rn_k, rn_var, rn_bm, rn_sl, rn_pNo, rn_pSome, rn_tBl, rn_tNt, rn_tAn, rn_tOo, rn_tTru, rn_and, rn_or, rn_not, rn_if, rn_chain, rn_rep, rn_kw, rn_mut, rn_lst, rn_ls, rn_tup, rn_app, rn_setM, rn_ixM, rn_ixL, rn_ixT, rn_lenL, rn_lenT, rn_lenM, rn_min2, rn_max2, rn_divmod, rn_eqI, rn_neI, rn_isN, rn_notN, rn_isB, rn_notB, rn_intI, rn_intB, rn_tupL, rn_tupT, rn_tupM, rn_iseq, rn_ien, rn_tYes, dTr_bl, dTr_int, dTr_non, dTr_lst, rn_dk, rn_fld, rn_setFld, rn_meth, ck_I, oks_setFld_iff, oks_augFld_iff, oks_par_two, rn_lenS, rn_countS, ck_L, ck_S, exists_eq, exists_eq', MO.lst.injEq, oks_seq_iff, oks_set_iff, oks_drop_iff, oks_ret_iff, oks_retN_iff, oks_aug_iff, oks_asg_iff, oks_setIx_iff, oks_nx, oks_brk, oks_cnt, nxt_nx, nxt_rt, tgt1, tgt2, tgt3, List.getElem?_cons_zero, List.getElem?_cons_succ, Option.bind_some, id, Option.some.injEq, exists_eq_left', List.set_cons_succ, List.set_cons_zero, D.bl.injEq, D.int.injEq, SR.nx.injEq, SR.rt.injEq, true_and, and_true, if_true, if_false, Bool.not_true, Bool.not_false, Bool.false_eq_true, Bool.true_eq_false, decide_eq_true_eq, Bool.not_eq_true', decide_eq_false_iff_not, nxt_ex, eq_self, not_true_eq_false, not_false_eq_true, st0, List.map_cons, List.map_nil, List.length_cons, List.length_nil, List.replicate, List.cons_append, List.nil_append, Nat.reduceAdd, Nat.reduceSub, Nat.zero_add, Nat.sub_self, wipeD, List.foldr]
    refine ⟨_, atI_ok (iD_get (List.getElem?_eq_getElem hk)), ?_⟩
    show D.int b[k] = D.int (b.getD ((k : Int)).toNat 0)
    rw [Int.toNat_natCast, List.getD_eq_getElem?_getD, List.getElem?_eq_getElem hk]; rfl
  · try simp only [rn_op2, rn_cb, rn_nil, rn_cons, rn_un, rn_i2, rn_addI, rn_mul, rn_ci, rn_k, rn_var, rn_bm, rn_sl, rn_pNo, rn_pSome, rn_tBl, rn_tNt, rn_tAn, rn_tOo, rn_tTru, rn_and, rn_or, rn_not, rn_if, rn_chain, rn_rep, rn_kw, rn_mut, rn_lst, rn_ls, rn_tup, rn_app, rn_setM, rn_ixM, rn_ixL, rn_ixT, rn_lenL, rn_lenT, rn_lenM, rn_min2, rn_max2, rn_divmod, rn_eqI, rn_neI, rn_isN, rn_notN, rn_isB, rn_notB, rn_intI, rn_intB, rn_tupL, rn_tupT, rn_tupM, rn_iseq, rn_ien, rn_tYes, dTr_bl, dTr_int, dTr_non, dTr_lst, rn_dk, rn_fld, rn_setFld, rn_meth, ck_I, oks_setFld_iff, oks_augFld_iff, oks_par_two, rn_lenS, rn_countS, ck_L, ck_S, exists_eq, exists_eq', MO.lst.injEq, oks_seq_iff, oks_set_iff, oks_drop_iff, oks_ret_iff, oks_retN_iff, oks_aug_iff, oks_asg_iff, oks_setIx_iff, oks_nx, oks_brk, oks_cnt, nxt_nx, nxt_rt, tgt1, tgt2, tgt3, List.getElem?_cons_zero, List.getElem?_cons_succ, Option.bind_some, id, Option.some.injEq, exists_eq_left', List.set_cons_succ, List.set_cons_zero, D.bl.injEq, D.int.injEq, SR.nx.injEq, SR.rt.injEq, true_and, and_true, if_true, if_false, Bool.not_true, Bool.not_false, Bool.false_eq_true, Bool.true_eq_false, decide_eq_true_eq, Bool.not_eq_true', decide_eq_false_iff_not, nxt_ex, eq_self, not_true_eq_false, not_false_eq_true]
    refine ⟨along b r, ?_, ?_⟩
    · show intsD _ = _
      unfold along nD
      rw [List.map_map, List.map_map]
      rw [← intsD_ints (r.map fun k => b.getD k 0), List.map_map]
      congr 1
    · try simp only [rn_op2, rn_cb, rn_nil, rn_cons, rn_un, rn_i2, rn_addI, rn_mul, rn_ci, rn_k, rn_var, rn_bm, rn_sl, rn_pNo, rn_pSome, rn_tBl, rn_tNt, rn_tAn, rn_tOo, rn_tTru, rn_and, rn_or, rn_not, rn_if, rn_chain, rn_rep, rn_kw, rn_mut, rn_lst, rn_ls, rn_tup, rn_app, rn_setM, rn_ixM, rn_ixL, rn_ixT, rn_lenL, rn_lenT, rn_lenM, rn_min2, rn_max2, rn_divmod, rn_eqI, rn_neI, rn_isN, rn_notN, rn_isB, rn_notB, rn_intI, rn_intB, rn_tupL, rn_tupT, rn_tupM, rn_iseq, rn_ien, rn_tYes, dTr_bl, dTr_int, dTr_non, dTr_lst, rn_dk, rn_fld, rn_setFld, rn_meth, ck_I, oks_setFld_iff, oks_augFld_iff, oks_par_two, rn_lenS, rn_countS, ck_L, ck_S, exists_eq, exists_eq', MO.lst.injEq, oks_seq_iff, oks_set_iff, oks_drop_iff, oks_ret_iff, oks_retN_iff, oks_aug_iff, oks_asg_iff, oks_setIx_iff, oks_nx, oks_brk, oks_cnt, nxt_nx, nxt_rt, tgt1, tgt2, tgt3, List.getElem?_cons_zero, List.getElem?_cons_succ, Option.bind_some, id, Option.some.injEq, exists_eq_left', List.set_cons_succ, List.set_cons_zero, D.bl.injEq, D.int.injEq, SR.nx.injEq, SR.rt.injEq, true_and, and_true, if_true, if_false, Bool.not_true, Bool.not_false, Bool.false_eq_true, Bool.true_eq_false, decide_eq_true_eq, Bool.not_eq_true', decide_eq_false_iff_not, nxt_ex, eq_self, not_true_eq_false, not_false_eq_true]
end TX

namespace TX
open PySem PySem.Spec L2 DL
/-! ## running sums; which of two bundles is better -/
def runs : Int → List Int → List Int
  | _, [] => []
  | s, x :: xs => (s + x) :: runs (s + x) xs
theorem runs_len : ∀ (s : Int) (xs : List Int), (runs s xs).length = xs.length
  | _, [] => rfl
  | s, x :: xs => by show (runs (s + x) xs).length + 1 = _; rw [runs_len]; rfl
theorem runs_add : ∀ (s t : Int) (xs : List Int), runs (s + t) xs = (runs t xs).map (s + ·)
  | _, _, [] => rfl
  | s, t, x :: xs => by
    show (s + t + x) :: runs (s + t + x) xs = (s + (t + x)) :: (runs (t + x) xs).map (s + ·)
    rw [Int.add_assoc, runs_add]
theorem psums_cons (x : Int) (xs : List Int) : psums (x :: xs) = x :: (psums xs).map (x + ·) := by
  unfold psums
  rw [List.length_cons, List.range_succ_eq_map, List.map_cons, List.map_map, List.map_map]
  congr 1
  · simp
theorem psums_runs : ∀ xs : List Int, psums xs = runs 0 xs
  | [] => rfl
  | x :: xs => by
    rw [psums_cons, psums_runs xs]
    show x :: (runs 0 xs).map (x + ·) = (0 + x) :: runs (0 + x) xs
    rw [← runs_add, Int.add_zero, Int.zero_add]
theorem runs_snoc : ∀ (s : Int) (xs : List Int) (y : Int), runs s (xs ++ [y]) = runs s xs ++ [s + xs.sum + y]
  | s, [], y => by simp [runs]
  | s, x :: xs, y => by
    show (s + x) :: runs (s + x) (xs ++ [y]) = _
    rw [runs_snoc, List.sum_cons]
    show _ = ((s + x) :: runs (s + x) xs) ++ _
    rw [show s + (x + xs.sum) = s + x + xs.sum by omega]; rfl
def gapD (a b : List Int) : List Int := List.zipWith (· - ·) a b
theorem runs_gap : ∀ (s t : Int) (a b : List Int), a.length = b.length → gapD (runs s a) (runs t b) = runs (s - t) (gapD a b)
  | _, _, [], _, h => rfl
  | _, _, x :: a, [], h => by cases h
  | s, t, x :: a, y :: b, h => by
    show (s + x - (t + y)) :: gapD (runs (s + x) a) (runs (t + y) b) = (s - t + (x - y)) :: runs (s - t + (x - y)) (gapD a b)
    rw [runs_gap _ _ a b (by simpa using h), show s + x - (t + y) = s - t + (x - y) by omega]
theorem runs_neg : ∀ (s : Int) (a b : List Int), runs (-s) (gapD b a) = (runs s (gapD a b)).map (- ·)
  | _, [], [] => rfl
  | _, [], _ :: _ => rfl
  | _, _ :: _, [] => rfl
  | s, x :: a, y :: b => by
    show (-s + (y - x)) :: runs (-s + (y - x)) (gapD b a) = -(s + (x - y)) :: (runs (s + (x - y)) (gapD a b)).map (- ·)
    rw [show -s + (y - x) = -(s + (x - y)) by omega, runs_neg]
theorem runs_zero : ∀ (xs : List Int), (∀ g ∈ runs 0 xs, g = 0) → ∀ x ∈ xs, x = 0
  | [], _, x, hx => absurd hx (by simp)
  | y :: xs, h, x, hx => by
    have h1 : 0 + y = 0 := h (0 + y) List.mem_cons_self
    have hy : y = 0 := by omega
    subst hy
    rcases List.mem_cons.mp hx with e | hx
    · exact e
    · exact runs_zero xs (fun g hg => h g (List.mem_cons_of_mem _ hg)) x hx
open Classical in
noncomputable def cmpW (a b : List Int) (r : List Nat) : Str :=
  if a = b then "equal" else if ∀ g ∈ runs 0 (gapD (along a r) (along b r)), 0 ≤ g then "better" else if ∀ g ∈ runs 0 (gapD (along a r) (along b r)), g ≤ 0 then "worse" else "unclear"
theorem along_len (b : List Int) (r : List Nat) : (along b r).length = r.length := List.length_map _
theorem gap_along (a b : List Int) : ∀ r : List Nat, gapD (along a r) (along b r) = r.map fun k => a.getD k 0 - b.getD k 0
  | [] => rfl
  | k :: r => by show (a.getD k 0 - b.getD k 0) :: gapD (along a r) (along b r) = _; rw [gap_along a b r]; rfl
theorem along_eq {a b : List Int} {r : List Nat} {n : Nat} (ha : a.length = n) (hb : b.length = n) (hr : r.Perm (List.range n)) (h : ∀ g ∈ runs 0 (gapD (along a r) (along b r)), g = 0) : a = b := by
  have h1 := runs_zero _ h
  rw [gap_along] at h1
  refine List.ext_getElem (by omega) fun i h2 h3 => ?_
  have hi : i ∈ r := hr.mem_iff.mpr (List.mem_range.mpr (by omega))
  have := h1 _ (List.mem_map.mpr ⟨i, hi, rfl⟩)
  simp only [List.getD_eq_getElem?_getD, List.getElem?_eq_getElem h2, List.getElem?_eq_getElem h3, Option.getD_some] at this
  omega
theorem cmp_back {a b : List Int} {r : List Nat} {n : Nat} (ha : a.length = n) (hb : b.length = n) (hr : r.Perm (List.range n)) :
    lkD [.inr "equal", .inr "better", .inr "worse", .inr "unclear"] [.str "equal", .str "worse", .str "better", .str "unclear"] (.inr (cmpW a b r)) = some (.str (cmpW b a r)) := by
  have neg : runs 0 (gapD (along b r) (along a r)) = (runs 0 (gapD (along a r) (along b r))).map (- ·) := runs_neg 0 _ _
  have h1 : (∀ g ∈ runs 0 (gapD (along b r) (along a r)), 0 ≤ g) ↔ ∀ g ∈ runs 0 (gapD (along a r) (along b r)), g ≤ 0 := by
    rw [neg]
    constructor
    · intro h g hg
      have := h (-g) (List.mem_map.mpr ⟨g, hg, rfl⟩)
      omega
    · intro h g hg
      obtain ⟨x, hx, rfl⟩ := List.mem_map.mp hg
      have := h x hx
      omega
  have h2 : (∀ g ∈ runs 0 (gapD (along b r) (along a r)), g ≤ 0) ↔ ∀ g ∈ runs 0 (gapD (along a r) (along b r)), 0 ≤ g := by
    rw [neg]
    constructor
    · intro h g hg
      have := h (-g) (List.mem_map.mpr ⟨g, hg, rfl⟩)
      omega
    · intro h g hg
      obtain ⟨x, hx, rfl⟩ := List.mem_map.mp hg
      have := h x hx
      omega
  unfold cmpW
  by_cases he : a = b
  · rw [if_pos he, if_pos he.symm]; rfl
  · have hba : ¬ b = a := fun e => he e.symm
    rw [if_neg he, if_neg hba]
    by_cases hg : ∀ g ∈ runs 0 (gapD (along a r) (along b r)), 0 ≤ g
    · rw [if_pos hg]
      have hl : ¬ ∀ g ∈ runs 0 (gapD (along b r) (along a r)), 0 ≤ g := fun hl => he (along_eq ha hb hr fun g h => by
        have := hg g h
        have := h1.mp hl g h
        omega)
      rw [if_neg hl, if_pos (h2.mpr hg)]; rfl
    · rw [if_neg hg]
      by_cases hl : ∀ g ∈ runs 0 (gapD (along a r) (along b r)), g ≤ 0
      · rw [if_pos hl, if_pos (h1.mpr hl)]; rfl
      · have n1 : ¬ ∀ g ∈ runs 0 (gapD (along b r) (along a r)), 0 ≤ g := fun h => hl (h1.mp h)
        have n2 : ¬ ∀ g ∈ runs 0 (gapD (along b r) (along a r)), g ≤ 0 := fun h => hg (h2.mp h)
        rw [if_neg hl, if_neg n1, if_neg n2]; rfl
theorem lMin_all : ∀ {ns : List Int}, ns ≠ [] → ∃ m, lMin ns = some m ∧ (0 ≤ m ↔ ∀ g ∈ ns, 0 ≤ g)
  | [], h => absurd rfl h
  | [x], _ => ⟨x, rfl, by simp⟩
  | x :: y :: r, _ => by
    obtain ⟨m, e, k⟩ := lMin_all (ns := y :: r) (by simp)
    refine ⟨if m < x then m else x, by unfold lMin; rw [e]; rfl, ?_⟩
    constructor
    · intro h g hg
      rcases List.mem_cons.mp hg with rfl | hg
      · split at h <;> omega
      · refine k.mp ?_ g hg
        split at h <;> omega
    · intro h
      have h1 := h x List.mem_cons_self
      have h2 := k.mpr fun g hg => h g (List.mem_cons_of_mem _ hg)
      split <;> omega
theorem lMax_all : ∀ {ns : List Int}, ns ≠ [] → ∃ m, lMax ns = some m ∧ (m ≤ 0 ↔ ∀ g ∈ ns, g ≤ 0)
  | [], h => absurd rfl h
  | [x], _ => ⟨x, rfl, by simp⟩
  | x :: y :: r, _ => by
    obtain ⟨m, e, k⟩ := lMax_all (ns := y :: r) (by simp)
    refine ⟨if x < m then m else x, by unfold lMax; rw [e]; rfl, ?_⟩
    constructor
    · intro h g hg
      rcases List.mem_cons.mp hg with rfl | hg
      · split at h <;> omega
      · refine k.mp ?_ g hg
        split at h <;> omega
    · intro h
      have h1 := h x List.mem_cons_self
      have h2 := k.mpr fun g hg => h g (List.mem_cons_of_mem _ hg)
      split <;> omega
end TX

namespace TX
open PySem PySem.Spec L2 DL
theorem zipD_iD : ∀ (a b : List Int), zipD (iD a) (iD b) = (List.zip a b).map fun p => .wtup [.int p.1, .int p.2]
  | [], _ => rfl
  | _ :: _, [] => rfl
  | x :: a, y :: b => by
    show D.wtup [.int x, .int y] :: zipD (iD a) (iD b) = _
    rw [zipD_iD]; rfl
theorem iD_inj : ∀ {a b : List Int}, iD a = iD b → a = b
  | [], [], _ => rfl
  | [], _ :: _, h => by cases h
  | _ :: _, [], h => by cases h
  | x :: a, y :: b, h => by
    have h1 : D.int x = D.int y := (List.cons.inj h).1
    have h2 : iD a = iD b := (List.cons.inj h).2
    cases h1
    rw [iD_inj h2]
theorem iD_gap : ∀ (a b : List Int), iD (gapD a b) = (List.zip a b).map fun p => .int (p.1 - p.2)
  | [], _ => rfl
  | _ :: _, [] => rfl
  | x :: a, y :: b => by
    show D.int (x - y) :: iD (gapD a b) = _
    rw [iD_gap]; rfl
theorem compare_ok {a b : List Int} {r : List Nat} {n : Nat} (ha : a.length = n) (hb : b.length = n) (ha0 : ∀ x ∈ a, 0 ≤ x) (hb0 : ∀ x ∈ b, 0 ≤ x) (hr : r.Perm (List.range n)) (hn : n ≤ 60) :
    Gives d_P_compare [.tup (nD r), .tup (iD a), .tup (iD b)] (.str (cmpW a b r)) := by
  have hrl : r.length = n := by rw [hr.length_eq, List.length_range]
  have hra : ∀ k ∈ r, k < a.length := fun k hk => by rw [ha]; exact List.mem_range.mp (hr.mem_iff.mp hk)
  have hrb : ∀ k ∈ r, k < b.length := fun k hk => by rw [hb]; exact List.mem_range.mp (hr.mem_iff.mp hk)
  have chk := chkranking_ok (n := n) hr (by omega)
  have e1 : ((nD r).length : Int) = (n : Int) := by rw [nD_len, hrl]
  have kin := kindsin_ok (xs := nD r) (by rw [nD_len]; omega)
  have ba := isbundle_ok ha ha0
  have bb := isbundle_ok hb hb0
  rw [e1] at kin
  generalize hN : (n : Int) = N at *
  refine gives_rt (fun _ => trivial) fun μ => ?_
  unfold g_P_compare
  try simp only [rn_op2, rn_cb, rn_nil, rn_cons, rn_un, rn_i2, rn_addI, rn_mul, rn_ci, rn_k, rn_var, rn_bm, rn_sl, rn_pNo, rn_pSome, rn_tBl, rn_tNt, rn_tAn, rn_tOo, rn_tTru, rn_and, rn_or, rn_not, rn_if, rn_chain, rn_rep, rn_kw, rn_mut, rn_lst, rn_ls, rn_tup, rn_app, rn_setM, rn_ixM, rn_ixL, rn_ixT, rn_lenL, rn_lenT, rn_lenM, rn_min2, rn_max2, rn_divmod, rn_eqI, rn_neI, rn_isN, rn_notN, rn_isB, rn_notB, rn_intI, rn_intB, rn_tupL, rn_tupT, rn_tupM, rn_iseq, rn_ien, rn_tYes, dTr_bl, dTr_int, dTr_non, dTr_lst, rn_dk, rn_fld, rn_setFld, rn_meth, ck_I, oks_setFld_iff, oks_augFld_iff, oks_par_two, rn_lenS, rn_countS, ck_L, ck_S, exists_eq, exists_eq', MO.lst.injEq, oks_seq_iff, oks_set_iff, oks_drop_iff, oks_ret_iff, oks_retN_iff, oks_aug_iff, oks_asg_iff, oks_setIx_iff, oks_nx, oks_brk, oks_cnt, nxt_nx, nxt_rt, tgt1, tgt2, tgt3, List.getElem?_cons_zero, List.getElem?_cons_succ, Option.bind_some, id, Option.some.injEq, exists_eq_left', List.set_cons_succ, List.set_cons_zero, D.bl.injEq, D.int.injEq, SR.nx.injEq, SR.rt.injEq, true_and, and_true, if_true, if_false, Bool.not_true, Bool.not_false, Bool.false_eq_true, Bool.true_eq_false, decide_eq_true_eq, Bool.not_eq_true', decide_eq_false_iff_not, nxt_ex, eq_self, not_true_eq_false, not_false_eq_true, st0, List.map_cons, List.map_nil, List.length_cons, List.length_nil, List.replicate, List.cons_append, List.nil_append, Nat.reduceAdd, Nat.reduceSub, Nat.zero_add, Nat.sub_self]
  rw [rnG1 kin, rnG2 chk]
  try simp only [rn_op2, rn_cb, rn_nil, rn_cons, rn_un, rn_i2, rn_addI, rn_mul, rn_ci, rn_k, rn_var, rn_bm, rn_sl, rn_pNo, rn_pSome, rn_tBl, rn_tNt, rn_tAn, rn_tOo, rn_tTru, rn_and, rn_or, rn_not, rn_if, rn_chain, rn_rep, rn_kw, rn_mut, rn_lst, rn_ls, rn_tup, rn_app, rn_setM, rn_ixM, rn_ixL, rn_ixT, rn_lenL, rn_lenT, rn_lenM, rn_min2, rn_max2, rn_divmod, rn_eqI, rn_neI, rn_isN, rn_notN, rn_isB, rn_notB, rn_intI, rn_intB, rn_tupL, rn_tupT, rn_tupM, rn_iseq, rn_ien, rn_tYes, dTr_bl, dTr_int, dTr_non, dTr_lst, rn_dk, rn_fld, rn_setFld, rn_meth, ck_I, oks_setFld_iff, oks_augFld_iff, oks_par_two, rn_lenS, rn_countS, ck_L, ck_S, exists_eq, exists_eq', MO.lst.injEq, oks_seq_iff, oks_set_iff, oks_drop_iff, oks_ret_iff, oks_retN_iff, oks_aug_iff, oks_asg_iff, oks_setIx_iff, oks_nx, oks_brk, oks_cnt, nxt_nx, nxt_rt, tgt1, tgt2, tgt3, List.getElem?_cons_zero, List.getElem?_cons_succ, Option.bind_some, id, Option.some.injEq, exists_eq_left', List.set_cons_succ, List.set_cons_zero, D.bl.injEq, D.int.injEq, SR.nx.injEq, SR.rt.injEq, true_and, and_true, if_true, if_false, Bool.not_true, Bool.not_false, Bool.false_eq_true, Bool.true_eq_false, decide_eq_true_eq, Bool.not_eq_true', decide_eq_false_iff_not, nxt_ex, eq_self, not_true_eq_false, not_false_eq_true]
  refine oks_forR (fun items gs k sl μk => gs = [] ∧ items = enumD 0 [.tup (iD a), .tup (iD b)] ∧ (∃ x3 x4, sl = [some (.tup (nD r)), some (.tup (iD a)), some (.tup (iD b)), x3, x4, none, none, none]) ∧ μk = μ) ?_
  try simp only [rn_op2, rn_cb, rn_nil, rn_cons, rn_un, rn_i2, rn_addI, rn_mul, rn_ci, rn_k, rn_var, rn_bm, rn_sl, rn_pNo, rn_pSome, rn_tBl, rn_tNt, rn_tAn, rn_tOo, rn_tTru, rn_and, rn_or, rn_not, rn_if, rn_chain, rn_rep, rn_kw, rn_mut, rn_lst, rn_ls, rn_tup, rn_app, rn_setM, rn_ixM, rn_ixL, rn_ixT, rn_lenL, rn_lenT, rn_lenM, rn_min2, rn_max2, rn_divmod, rn_eqI, rn_neI, rn_isN, rn_notN, rn_isB, rn_notB, rn_intI, rn_intB, rn_tupL, rn_tupT, rn_tupM, rn_iseq, rn_ien, rn_tYes, dTr_bl, dTr_int, dTr_non, dTr_lst, rn_dk, rn_fld, rn_setFld, rn_meth, ck_I, oks_setFld_iff, oks_augFld_iff, oks_par_two, rn_lenS, rn_countS, ck_L, ck_S, exists_eq, exists_eq', MO.lst.injEq, oks_seq_iff, oks_set_iff, oks_drop_iff, oks_ret_iff, oks_retN_iff, oks_aug_iff, oks_asg_iff, oks_setIx_iff, oks_nx, oks_brk, oks_cnt, nxt_nx, nxt_rt, tgt1, tgt2, tgt3, List.getElem?_cons_zero, List.getElem?_cons_succ, Option.bind_some, id, Option.some.injEq, exists_eq_left', List.set_cons_succ, List.set_cons_zero, D.bl.injEq, D.int.injEq, SR.nx.injEq, SR.rt.injEq, true_and, and_true, if_true, if_false, Bool.not_true, Bool.not_false, Bool.false_eq_true, Bool.true_eq_false, decide_eq_true_eq, Bool.not_eq_true', decide_eq_false_iff_not, nxt_ex, eq_self, not_true_eq_false, not_false_eq_true]
  refine ⟨by show 2 ≤ sizeLine; decide, ([.tup (iD a), .tup (iD b)], []), rfl, guard_nil _, ⟨rfl, rfl, none, none, rfl⟩, ?_, ?_⟩
  · rintro i d sl μ1 hd ⟨_, _, ⟨x3, x4, rfl⟩, rfl⟩
    have go : ∀ (x : List Int) (i : Int), Gives d_P_is_bundle [.tup (iD x), .int N] (.bl true) → d = .wtup [.int i, .tup (iD x)] → ∃ sl1, (dgTup (dgCons (dgName 3) (dgCons (dgName 4) dgNil)) 2).go d [some (D.tup (nD r)), some (D.tup (iD a)), some (D.tup (iD b)), x3, x4, none, none, none] = some sl1 ∧
        OkS (sIf (tNt (tTru (eCB (oCall 2 d_P_is_bundle) (aCons (eVar 4) (aCons (eCB oLen (aCons (eVar 0) aNil)) aNil))))) sNo sNx sl1) μ1 fun r1 μ2 => (∃ x3 x4, r1 = .nx [some (D.tup (nD r)), some (D.tup (iD a)), some (D.tup (iD b)), x3, x4, none, none, none]) ∧ μ2 = μ1 := by
      rintro x i hx rfl
      refine ⟨_, rfl, ?_⟩
      rw [oks_if_iff]
      try simp only [rn_op2, rn_cb, rn_nil, rn_cons, rn_un, rn_i2, rn_addI, rn_mul, rn_ci, rn_k, rn_var, rn_bm, rn_sl, rn_pNo, rn_pSome, rn_tBl, rn_tNt, rn_tAn, rn_tOo, rn_tTru, rn_and, rn_or, rn_not, rn_if, rn_chain, rn_rep, rn_kw, rn_mut, rn_lst, rn_ls, rn_tup, rn_app, rn_setM, rn_ixM, rn_ixL, rn_ixT, rn_lenL, rn_lenT, rn_lenM, rn_min2, rn_max2, rn_divmod, rn_eqI, rn_neI, rn_isN, rn_notN, rn_isB, rn_notB, rn_intI, rn_intB, rn_tupL, rn_tupT, rn_tupM, rn_iseq, rn_ien, rn_tYes, dTr_bl, dTr_int, dTr_non, dTr_lst, rn_dk, rn_fld, rn_setFld, rn_meth, ck_I, oks_setFld_iff, oks_augFld_iff, oks_par_two, rn_lenS, rn_countS, ck_L, ck_S, exists_eq, exists_eq', MO.lst.injEq, oks_seq_iff, oks_set_iff, oks_drop_iff, oks_ret_iff, oks_retN_iff, oks_aug_iff, oks_asg_iff, oks_setIx_iff, oks_nx, oks_brk, oks_cnt, nxt_nx, nxt_rt, tgt1, tgt2, tgt3, List.getElem?_cons_zero, List.getElem?_cons_succ, Option.bind_some, id, Option.some.injEq, exists_eq_left', List.set_cons_succ, List.set_cons_zero, D.bl.injEq, D.int.injEq, SR.nx.injEq, SR.rt.injEq, true_and, and_true, if_true, if_false, Bool.not_true, Bool.not_false, Bool.false_eq_true, Bool.true_eq_false, decide_eq_true_eq, Bool.not_eq_true', decide_eq_false_iff_not, nxt_ex, eq_self, not_true_eq_false, not_false_eq_true]
      rw [e1, rnG2 hx]
      try simp only [rn_op2, rn_cb, rn_nil, rn_cons, rn_un, rn_i2, rn_addI, rn_mul, rn_ci, rn_k, rn_var, rn_bm, rn_sl, rn_pNo, rn_pSome, rn_tBl, rn_tNt, rn_tAn, rn_tOo, rn_tTru, rn_and, rn_or, rn_not, rn_if, rn_chain, rn_rep, rn_kw, rn_mut, rn_lst, rn_ls, rn_tup, rn_app, rn_setM, rn_ixM, rn_ixL, rn_ixT, rn_lenL, rn_lenT, rn_lenM, rn_min2, rn_max2, rn_divmod, rn_eqI, rn_neI, rn_isN, rn_notN, rn_isB, rn_notB, rn_intI, rn_intB, rn_tupL, rn_tupT, rn_tupM, rn_iseq, rn_ien, rn_tYes, dTr_bl, dTr_int, dTr_non, dTr_lst, rn_dk, rn_fld, rn_setFld, rn_meth, ck_I, oks_setFld_iff, oks_augFld_iff, oks_par_two, rn_lenS, rn_countS, ck_L, ck_S, exists_eq, exists_eq', MO.lst.injEq, oks_seq_iff, oks_set_iff, oks_drop_iff, oks_ret_iff, oks_retN_iff, oks_aug_iff, oks_asg_iff, oks_setIx_iff, oks_nx, oks_brk, oks_cnt, nxt_nx, nxt_rt, tgt1, tgt2, tgt3, List.getElem?_cons_zero, List.getElem?_cons_succ, Option.bind_some, id, Option.some.injEq, exists_eq_left', List.set_cons_succ, List.set_cons_zero, D.bl.injEq, D.int.injEq, SR.nx.injEq, SR.rt.injEq, true_and, and_true, if_true, if_false, Bool.not_true, Bool.not_false, Bool.false_eq_true, Bool.true_eq_false, decide_eq_true_eq, Bool.not_eq_true', decide_eq_false_iff_not, nxt_ex, eq_self, not_true_eq_false, not_false_eq_true]
      exact ⟨_, _, rfl⟩
    match i, hd with
    | 0, hd =>
      cases hd
      obtain ⟨sl1, h1, h2⟩ := go a 0 ba rfl
      refine ⟨sl1, h1, h2.imp ?_⟩
      rintro r1 μ2 ⟨⟨y3, y4, rfl⟩, rfl⟩
      exact ⟨guard_nil _, rfl, rfl, ⟨_, _, rfl⟩, rfl⟩
    | 1, hd =>
      cases hd
      obtain ⟨sl1, h1, h2⟩ := go b 1 bb rfl
      refine ⟨sl1, h1, h2.imp ?_⟩
      rintro r1 μ2 ⟨⟨y3, y4, rfl⟩, rfl⟩
      exact ⟨guard_nil _, rfl, rfl, ⟨_, _, rfl⟩, rfl⟩
    | i + 2, hd => cases hd
  · rintro sl μ1 ⟨_, _, ⟨x3, x4, rfl⟩, rfl⟩
    try simp only [rn_op2, rn_cb, rn_nil, rn_cons, rn_un, rn_i2, rn_addI, rn_mul, rn_ci, rn_k, rn_var, rn_bm, rn_sl, rn_pNo, rn_pSome, rn_tBl, rn_tNt, rn_tAn, rn_tOo, rn_tTru, rn_and, rn_or, rn_not, rn_if, rn_chain, rn_rep, rn_kw, rn_mut, rn_lst, rn_ls, rn_tup, rn_app, rn_setM, rn_ixM, rn_ixL, rn_ixT, rn_lenL, rn_lenT, rn_lenM, rn_min2, rn_max2, rn_divmod, rn_eqI, rn_neI, rn_isN, rn_notN, rn_isB, rn_notB, rn_intI, rn_intB, rn_tupL, rn_tupT, rn_tupM, rn_iseq, rn_ien, rn_tYes, dTr_bl, dTr_int, dTr_non, dTr_lst, rn_dk, rn_fld, rn_setFld, rn_meth, ck_I, oks_setFld_iff, oks_augFld_iff, oks_par_two, rn_lenS, rn_countS, ck_L, ck_S, exists_eq, exists_eq', MO.lst.injEq, oks_seq_iff, oks_set_iff, oks_drop_iff, oks_ret_iff, oks_retN_iff, oks_aug_iff, oks_asg_iff, oks_setIx_iff, oks_nx, oks_brk, oks_cnt, nxt_nx, nxt_rt, tgt1, tgt2, tgt3, List.getElem?_cons_zero, List.getElem?_cons_succ, Option.bind_some, id, Option.some.injEq, exists_eq_left', List.set_cons_succ, List.set_cons_zero, D.bl.injEq, D.int.injEq, SR.nx.injEq, SR.rt.injEq, true_and, and_true, if_true, if_false, Bool.not_true, Bool.not_false, Bool.false_eq_true, Bool.true_eq_false, decide_eq_true_eq, Bool.not_eq_true', decide_eq_false_iff_not, nxt_ex, eq_self, not_true_eq_false, not_false_eq_true]
    rw [oks_if_iff]
    try simp only [rn_op2, rn_cb, rn_nil, rn_cons, rn_un, rn_i2, rn_addI, rn_mul, rn_ci, rn_k, rn_var, rn_bm, rn_sl, rn_pNo, rn_pSome, rn_tBl, rn_tNt, rn_tAn, rn_tOo, rn_tTru, rn_and, rn_or, rn_not, rn_if, rn_chain, rn_rep, rn_kw, rn_mut, rn_lst, rn_ls, rn_tup, rn_app, rn_setM, rn_ixM, rn_ixL, rn_ixT, rn_lenL, rn_lenT, rn_lenM, rn_min2, rn_max2, rn_divmod, rn_eqI, rn_neI, rn_isN, rn_notN, rn_isB, rn_notB, rn_intI, rn_intB, rn_tupL, rn_tupT, rn_tupM, rn_iseq, rn_ien, rn_tYes, dTr_bl, dTr_int, dTr_non, dTr_lst, rn_dk, rn_fld, rn_setFld, rn_meth, ck_I, oks_setFld_iff, oks_augFld_iff, oks_par_two, rn_lenS, rn_countS, ck_L, ck_S, exists_eq, exists_eq', MO.lst.injEq, oks_seq_iff, oks_set_iff, oks_drop_iff, oks_ret_iff, oks_retN_iff, oks_aug_iff, oks_asg_iff, oks_setIx_iff, oks_nx, oks_brk, oks_cnt, nxt_nx, nxt_rt, tgt1, tgt2, tgt3, List.getElem?_cons_zero, List.getElem?_cons_succ, Option.bind_some, id, Option.some.injEq, exists_eq_left', List.set_cons_succ, List.set_cons_zero, D.bl.injEq, D.int.injEq, SR.nx.injEq, SR.rt.injEq, true_and, and_true, if_true, if_false, Bool.not_true, Bool.not_false, Bool.false_eq_true, Bool.true_eq_false, decide_eq_true_eq, Bool.not_eq_true', decide_eq_false_iff_not, nxt_ex, eq_self, not_true_eq_false, not_false_eq_true]
    rw [rn_eqD (nice_intsT (by decide)) (nice_intsT (by decide))]
    refine ⟨_, rfl, ?_⟩
    have inj : (D.tup (iD a) = D.tup (iD b)) ↔ a = b := by
      rw [D.tup.injEq]
      exact ⟨iD_inj, fun h => by rw [h]⟩
    by_cases he : a = b
    · rw [if_pos (by simpa using inj.mpr he)]
      try simp only [rn_op2, rn_cb, rn_nil, rn_cons, rn_un, rn_i2, rn_addI, rn_mul, rn_ci, rn_k, rn_var, rn_bm, rn_sl, rn_pNo, rn_pSome, rn_tBl, rn_tNt, rn_tAn, rn_tOo, rn_tTru, rn_and, rn_or, rn_not, rn_if, rn_chain, rn_rep, rn_kw, rn_mut, rn_lst, rn_ls, rn_tup, rn_app, rn_setM, rn_ixM, rn_ixL, rn_ixT, rn_lenL, rn_lenT, rn_lenM, rn_min2, rn_max2, rn_divmod, rn_eqI, rn_neI, rn_isN, rn_notN, rn_isB, rn_notB, rn_intI, rn_intB, rn_tupL, rn_tupT, rn_tupM, rn_iseq, rn_ien, rn_tYes, dTr_bl, dTr_int, dTr_non, dTr_lst, rn_dk, rn_fld, rn_setFld, rn_meth, ck_I, oks_setFld_iff, oks_augFld_iff, oks_par_two, rn_lenS, rn_countS, ck_L, ck_S, exists_eq, exists_eq', MO.lst.injEq, oks_seq_iff, oks_set_iff, oks_drop_iff, oks_ret_iff, oks_retN_iff, oks_aug_iff, oks_asg_iff, oks_setIx_iff, oks_nx, oks_brk, oks_cnt, nxt_nx, nxt_rt, tgt1, tgt2, tgt3, List.getElem?_cons_zero, List.getElem?_cons_succ, Option.bind_some, id, Option.some.injEq, exists_eq_left', List.set_cons_succ, List.set_cons_zero, D.bl.injEq, D.int.injEq, SR.nx.injEq, SR.rt.injEq, true_and, and_true, if_true, if_false, Bool.not_true, Bool.not_false, Bool.false_eq_true, Bool.true_eq_false, decide_eq_true_eq, Bool.not_eq_true', decide_eq_false_iff_not, nxt_ex, eq_self, not_true_eq_false, not_false_eq_true]
      unfold cmpW
      rw [if_pos he]
    · rw [if_neg (by simpa using fun h => he (inj.mp h))]
      try simp only [rn_op2, rn_cb, rn_nil, rn_cons, rn_un, rn_i2, rn_addI, rn_mul, rn_ci, rn_k, rn_var, rn_bm, rn_sl, rn_pNo, rn_pSome, rn_tBl, rn_tNt, rn_tAn, rn_tOo, rn_tTru, rn_and, rn_or, rn_not, rn_if, rn_chain, rn_rep, rn_kw, rn_mut, rn_lst, rn_ls, rn_tup, rn_app, rn_setM, rn_ixM, rn_ixL, rn_ixT, rn_lenL, rn_lenT, rn_lenM, rn_min2, rn_max2, rn_divmod, rn_eqI, rn_neI, rn_isN, rn_notN, rn_isB, rn_notB, rn_intI, rn_intB, rn_tupL, rn_tupT, rn_tupM, rn_iseq, rn_ien, rn_tYes, dTr_bl, dTr_int, dTr_non, dTr_lst, rn_dk, rn_fld, rn_setFld, rn_meth, ck_I, oks_setFld_iff, oks_augFld_iff, oks_par_two, rn_lenS, rn_countS, ck_L, ck_S, exists_eq, exists_eq', MO.lst.injEq, oks_seq_iff, oks_set_iff, oks_drop_iff, oks_ret_iff, oks_retN_iff, oks_aug_iff, oks_asg_iff, oks_setIx_iff, oks_nx, oks_brk, oks_cnt, nxt_nx, nxt_rt, tgt1, tgt2, tgt3, List.getElem?_cons_zero, List.getElem?_cons_succ, Option.bind_some, id, Option.some.injEq, exists_eq_left', List.set_cons_succ, List.set_cons_zero, D.bl.injEq, D.int.injEq, SR.nx.injEq, SR.rt.injEq, true_and, and_true, if_true, if_false, Bool.not_true, Bool.not_false, Bool.false_eq_true, Bool.true_eq_false, decide_eq_true_eq, Bool.not_eq_true', decide_eq_false_iff_not, nxt_ex, eq_self, not_true_eq_false, not_false_eq_true]
      have pa := prefix_ok hra (by omega)
      have pb := prefix_ok hrb (by omega)
      refine rn_lcM (items := zipD (iD (psums (along a r))) (iD (psums (along b r)))) (gs := []) (fun d => match d with | .wtup [.int x, .int y] => .int (x - y) | d => d) ?_ (guard_nil _) ?_ ?_ ?_
      · rw [rn_izp]
        try simp only [rn_op2, rn_cb, rn_nil, rn_cons, rn_un, rn_i2, rn_addI, rn_mul, rn_ci, rn_k, rn_var, rn_bm, rn_sl, rn_pNo, rn_pSome, rn_tBl, rn_tNt, rn_tAn, rn_tOo, rn_tTru, rn_and, rn_or, rn_not, rn_if, rn_chain, rn_rep, rn_kw, rn_mut, rn_lst, rn_ls, rn_tup, rn_app, rn_setM, rn_ixM, rn_ixL, rn_ixT, rn_lenL, rn_lenT, rn_lenM, rn_min2, rn_max2, rn_divmod, rn_eqI, rn_neI, rn_isN, rn_notN, rn_isB, rn_notB, rn_intI, rn_intB, rn_tupL, rn_tupT, rn_tupM, rn_iseq, rn_ien, rn_tYes, dTr_bl, dTr_int, dTr_non, dTr_lst, rn_dk, rn_fld, rn_setFld, rn_meth, ck_I, oks_setFld_iff, oks_augFld_iff, oks_par_two, rn_lenS, rn_countS, ck_L, ck_S, exists_eq, exists_eq', MO.lst.injEq, oks_seq_iff, oks_set_iff, oks_drop_iff, oks_ret_iff, oks_retN_iff, oks_aug_iff, oks_asg_iff, oks_setIx_iff, oks_nx, oks_brk, oks_cnt, nxt_nx, nxt_rt, tgt1, tgt2, tgt3, List.getElem?_cons_zero, List.getElem?_cons_succ, Option.bind_some, id, Option.some.injEq, exists_eq_left', List.set_cons_succ, List.set_cons_zero, D.bl.injEq, D.int.injEq, SR.nx.injEq, SR.rt.injEq, true_and, and_true, if_true, if_false, Bool.not_true, Bool.not_false, Bool.false_eq_true, Bool.true_eq_false, decide_eq_true_eq, Bool.not_eq_true', decide_eq_false_iff_not, nxt_ex, eq_self, not_true_eq_false, not_false_eq_true]
        rw [rnG2 pa, rnG2 pb]
        exact ⟨_, rfl, _, rfl, rfl, rfl⟩
      · rw [zipD_len, iD_len, psums_len, along_len]
        exact Nat.le_trans (Nat.min_le_left _ _) (Nat.le_trans (by omega : r.length ≤ 60) (by decide))
      · intro d hd
        rw [zipD_iD] at hd
        obtain ⟨p, hp, rfl⟩ := List.mem_map.mp hd
        refine ⟨_, rfl, ?_⟩
        try simp only [rn_op2, rn_cb, rn_nil, rn_cons, rn_un, rn_i2, rn_addI, rn_mul, rn_ci, rn_k, rn_var, rn_bm, rn_sl, rn_pNo, rn_pSome, rn_tBl, rn_tNt, rn_tAn, rn_tOo, rn_tTru, rn_and, rn_or, rn_not, rn_if, rn_chain, rn_rep, rn_kw, rn_mut, rn_lst, rn_ls, rn_tup, rn_app, rn_setM, rn_ixM, rn_ixL, rn_ixT, rn_lenL, rn_lenT, rn_lenM, rn_min2, rn_max2, rn_divmod, rn_eqI, rn_neI, rn_isN, rn_notN, rn_isB, rn_notB, rn_intI, rn_intB, rn_tupL, rn_tupT, rn_tupM, rn_iseq, rn_ien, rn_tYes, dTr_bl, dTr_int, dTr_non, dTr_lst, rn_dk, rn_fld, rn_setFld, rn_meth, ck_I, oks_setFld_iff, oks_augFld_iff, oks_par_two, rn_lenS, rn_countS, ck_L, ck_S, exists_eq, exists_eq', MO.lst.injEq, oks_seq_iff, oks_set_iff, oks_drop_iff, oks_ret_iff, oks_retN_iff, oks_aug_iff, oks_asg_iff, oks_setIx_iff, oks_nx, oks_brk, oks_cnt, nxt_nx, nxt_rt, tgt1, tgt2, tgt3, List.getElem?_cons_zero, List.getElem?_cons_succ, Option.bind_some, id, Option.some.injEq, exists_eq_left', List.set_cons_succ, List.set_cons_zero, D.bl.injEq, D.int.injEq, SR.nx.injEq, SR.rt.injEq, true_and, and_true, if_true, if_false, Bool.not_true, Bool.not_false, Bool.false_eq_true, Bool.true_eq_false, decide_eq_true_eq, Bool.not_eq_true', decide_eq_false_iff_not, nxt_ex, eq_self, not_true_eq_false, not_false_eq_true, st0, List.map_cons, List.map_nil, List.length_cons, List.length_nil, List.replicate, List.cons_append, List.nil_append, Nat.reduceAdd, Nat.reduceSub, Nat.zero_add, Nat.sub_self, wipeD, List.foldr]
      · have ez : (zipD (iD (psums (along a r))) (iD (psums (along b r)))).map (fun d => match d with | D.wtup [.int x, .int y] => D.int (x - y) | d => d) = iD (runs 0 (gapD (along a r) (along b r))) := by
          rw [zipD_iD, List.map_map, psums_runs, psums_runs]
          have := runs_gap 0 0 (along a r) (along b r) (by rw [along_len, along_len])
          rw [Int.sub_self] at this
          rw [← this]
          rw [iD_gap]
          rfl
        rw [ez]
        try simp only [rn_op2, rn_cb, rn_nil, rn_cons, rn_un, rn_i2, rn_addI, rn_mul, rn_ci, rn_k, rn_var, rn_bm, rn_sl, rn_pNo, rn_pSome, rn_tBl, rn_tNt, rn_tAn, rn_tOo, rn_tTru, rn_and, rn_or, rn_not, rn_if, rn_chain, rn_rep, rn_kw, rn_mut, rn_lst, rn_ls, rn_tup, rn_app, rn_setM, rn_ixM, rn_ixL, rn_ixT, rn_lenL, rn_lenT, rn_lenM, rn_min2, rn_max2, rn_divmod, rn_eqI, rn_neI, rn_isN, rn_notN, rn_isB, rn_notB, rn_intI, rn_intB, rn_tupL, rn_tupT, rn_tupM, rn_iseq, rn_ien, rn_tYes, dTr_bl, dTr_int, dTr_non, dTr_lst, rn_dk, rn_fld, rn_setFld, rn_meth, ck_I, oks_setFld_iff, oks_augFld_iff, oks_par_two, rn_lenS, rn_countS, ck_L, ck_S, exists_eq, exists_eq', MO.lst.injEq, oks_seq_iff, oks_set_iff, oks_drop_iff, oks_ret_iff, oks_retN_iff, oks_aug_iff, oks_asg_iff, oks_setIx_iff, oks_nx, oks_brk, oks_cnt, nxt_nx, nxt_rt, tgt1, tgt2, tgt3, List.getElem?_cons_zero, List.getElem?_cons_succ, Option.bind_some, id, Option.some.injEq, exists_eq_left', List.set_cons_succ, List.set_cons_zero, D.bl.injEq, D.int.injEq, SR.nx.injEq, SR.rt.injEq, true_and, and_true, if_true, if_false, Bool.not_true, Bool.not_false, Bool.false_eq_true, Bool.true_eq_false, decide_eq_true_eq, Bool.not_eq_true', decide_eq_false_iff_not, nxt_ex, eq_self, not_true_eq_false, not_false_eq_true]
        rw [oks_if_iff]
        try simp only [rn_op2, rn_cb, rn_nil, rn_cons, rn_un, rn_i2, rn_addI, rn_mul, rn_ci, rn_k, rn_var, rn_bm, rn_sl, rn_pNo, rn_pSome, rn_tBl, rn_tNt, rn_tAn, rn_tOo, rn_tTru, rn_and, rn_or, rn_not, rn_if, rn_chain, rn_rep, rn_kw, rn_mut, rn_lst, rn_ls, rn_tup, rn_app, rn_setM, rn_ixM, rn_ixL, rn_ixT, rn_lenL, rn_lenT, rn_lenM, rn_min2, rn_max2, rn_divmod, rn_eqI, rn_neI, rn_isN, rn_notN, rn_isB, rn_notB, rn_intI, rn_intB, rn_tupL, rn_tupT, rn_tupM, rn_iseq, rn_ien, rn_tYes, dTr_bl, dTr_int, dTr_non, dTr_lst, rn_dk, rn_fld, rn_setFld, rn_meth, ck_I, oks_setFld_iff, oks_augFld_iff, oks_par_two, rn_lenS, rn_countS, ck_L, ck_S, exists_eq, exists_eq', MO.lst.injEq, oks_seq_iff, oks_set_iff, oks_drop_iff, oks_ret_iff, oks_retN_iff, oks_aug_iff, oks_asg_iff, oks_setIx_iff, oks_nx, oks_brk, oks_cnt, nxt_nx, nxt_rt, tgt1, tgt2, tgt3, List.getElem?_cons_zero, List.getElem?_cons_succ, Option.bind_some, id, Option.some.injEq, exists_eq_left', List.set_cons_succ, List.set_cons_zero, D.bl.injEq, D.int.injEq, SR.nx.injEq, SR.rt.injEq, true_and, and_true, if_true, if_false, Bool.not_true, Bool.not_false, Bool.false_eq_true, Bool.true_eq_false, decide_eq_true_eq, Bool.not_eq_true', decide_eq_false_iff_not, nxt_ex, eq_self, not_true_eq_false, not_false_eq_true]
        have hne : runs 0 (gapD (along a r) (along b r)) ≠ [] := fun h => he (along_eq ha hb hr fun g hg => by rw [h] at hg; cases hg)
        obtain ⟨m, e1, e2⟩ := lMin_all hne
        obtain ⟨M, f1, f2⟩ := lMax_all hne
        rw [rn_minL (intsD_ints _) e1]
        try simp only [rn_op2, rn_cb, rn_nil, rn_cons, rn_un, rn_i2, rn_addI, rn_mul, rn_ci, rn_k, rn_var, rn_bm, rn_sl, rn_pNo, rn_pSome, rn_tBl, rn_tNt, rn_tAn, rn_tOo, rn_tTru, rn_and, rn_or, rn_not, rn_if, rn_chain, rn_rep, rn_kw, rn_mut, rn_lst, rn_ls, rn_tup, rn_app, rn_setM, rn_ixM, rn_ixL, rn_ixT, rn_lenL, rn_lenT, rn_lenM, rn_min2, rn_max2, rn_divmod, rn_eqI, rn_neI, rn_isN, rn_notN, rn_isB, rn_notB, rn_intI, rn_intB, rn_tupL, rn_tupT, rn_tupM, rn_iseq, rn_ien, rn_tYes, dTr_bl, dTr_int, dTr_non, dTr_lst, rn_dk, rn_fld, rn_setFld, rn_meth, ck_I, oks_setFld_iff, oks_augFld_iff, oks_par_two, rn_lenS, rn_countS, ck_L, ck_S, exists_eq, exists_eq', MO.lst.injEq, oks_seq_iff, oks_set_iff, oks_drop_iff, oks_ret_iff, oks_retN_iff, oks_aug_iff, oks_asg_iff, oks_setIx_iff, oks_nx, oks_brk, oks_cnt, nxt_nx, nxt_rt, tgt1, tgt2, tgt3, List.getElem?_cons_zero, List.getElem?_cons_succ, Option.bind_some, id, Option.some.injEq, exists_eq_left', List.set_cons_succ, List.set_cons_zero, D.bl.injEq, D.int.injEq, SR.nx.injEq, SR.rt.injEq, true_and, and_true, if_true, if_false, Bool.not_true, Bool.not_false, Bool.false_eq_true, Bool.true_eq_false, decide_eq_true_eq, Bool.not_eq_true', decide_eq_false_iff_not, nxt_ex, eq_self, not_true_eq_false, not_false_eq_true]
        unfold cmpW
        rw [if_neg he]
        by_cases hg : ∀ g ∈ runs 0 (gapD (along a r) (along b r)), 0 ≤ g
        · rw [if_pos hg, if_pos (e2.mpr hg)]
          try simp only [rn_op2, rn_cb, rn_nil, rn_cons, rn_un, rn_i2, rn_addI, rn_mul, rn_ci, rn_k, rn_var, rn_bm, rn_sl, rn_pNo, rn_pSome, rn_tBl, rn_tNt, rn_tAn, rn_tOo, rn_tTru, rn_and, rn_or, rn_not, rn_if, rn_chain, rn_rep, rn_kw, rn_mut, rn_lst, rn_ls, rn_tup, rn_app, rn_setM, rn_ixM, rn_ixL, rn_ixT, rn_lenL, rn_lenT, rn_lenM, rn_min2, rn_max2, rn_divmod, rn_eqI, rn_neI, rn_isN, rn_notN, rn_isB, rn_notB, rn_intI, rn_intB, rn_tupL, rn_tupT, rn_tupM, rn_iseq, rn_ien, rn_tYes, dTr_bl, dTr_int, dTr_non, dTr_lst, rn_dk, rn_fld, rn_setFld, rn_meth, ck_I, oks_setFld_iff, oks_augFld_iff, oks_par_two, rn_lenS, rn_countS, ck_L, ck_S, exists_eq, exists_eq', MO.lst.injEq, oks_seq_iff, oks_set_iff, oks_drop_iff, oks_ret_iff, oks_retN_iff, oks_aug_iff, oks_asg_iff, oks_setIx_iff, oks_nx, oks_brk, oks_cnt, nxt_nx, nxt_rt, tgt1, tgt2, tgt3, List.getElem?_cons_zero, List.getElem?_cons_succ, Option.bind_some, id, Option.some.injEq, exists_eq_left', List.set_cons_succ, List.set_cons_zero, D.bl.injEq, D.int.injEq, SR.nx.injEq, SR.rt.injEq, true_and, and_true, if_true, if_false, Bool.not_true, Bool.not_false, Bool.false_eq_true, Bool.true_eq_false, decide_eq_true_eq, Bool.not_eq_true', decide_eq_false_iff_not, nxt_ex, eq_self, not_true_eq_false, not_false_eq_true]
        · have hg2 : ¬ 0 ≤ m := fun h => hg (e2.mp h)
          rw [if_neg hg, if_neg hg2]
          try simp only [rn_op2, rn_cb, rn_nil, rn_cons, rn_un, rn_i2, rn_addI, rn_mul, rn_ci, rn_k, rn_var, rn_bm, rn_sl, rn_pNo, rn_pSome, rn_tBl, rn_tNt, rn_tAn, rn_tOo, rn_tTru, rn_and, rn_or, rn_not, rn_if, rn_chain, rn_rep, rn_kw, rn_mut, rn_lst, rn_ls, rn_tup, rn_app, rn_setM, rn_ixM, rn_ixL, rn_ixT, rn_lenL, rn_lenT, rn_lenM, rn_min2, rn_max2, rn_divmod, rn_eqI, rn_neI, rn_isN, rn_notN, rn_isB, rn_notB, rn_intI, rn_intB, rn_tupL, rn_tupT, rn_tupM, rn_iseq, rn_ien, rn_tYes, dTr_bl, dTr_int, dTr_non, dTr_lst, rn_dk, rn_fld, rn_setFld, rn_meth, ck_I, oks_setFld_iff, oks_augFld_iff, oks_par_two, rn_lenS, rn_countS, ck_L, ck_S, exists_eq, exists_eq', MO.lst.injEq, oks_seq_iff, oks_set_iff, oks_drop_iff, oks_ret_iff, oks_retN_iff, oks_aug_iff, oks_asg_iff, oks_setIx_iff, oks_nx, oks_brk, oks_cnt, nxt_nx, nxt_rt, tgt1, tgt2, tgt3, List.getElem?_cons_zero, List.getElem?_cons_succ, Option.bind_some, id, Option.some.injEq, exists_eq_left', List.set_cons_succ, List.set_cons_zero, D.bl.injEq, D.int.injEq, SR.nx.injEq, SR.rt.injEq, true_and, and_true, if_true, if_false, Bool.not_true, Bool.not_false, Bool.false_eq_true, Bool.true_eq_false, decide_eq_true_eq, Bool.not_eq_true', decide_eq_false_iff_not, nxt_ex, eq_self, not_true_eq_false, not_false_eq_true]
          rw [oks_if_iff]
          try simp only [rn_op2, rn_cb, rn_nil, rn_cons, rn_un, rn_i2, rn_addI, rn_mul, rn_ci, rn_k, rn_var, rn_bm, rn_sl, rn_pNo, rn_pSome, rn_tBl, rn_tNt, rn_tAn, rn_tOo, rn_tTru, rn_and, rn_or, rn_not, rn_if, rn_chain, rn_rep, rn_kw, rn_mut, rn_lst, rn_ls, rn_tup, rn_app, rn_setM, rn_ixM, rn_ixL, rn_ixT, rn_lenL, rn_lenT, rn_lenM, rn_min2, rn_max2, rn_divmod, rn_eqI, rn_neI, rn_isN, rn_notN, rn_isB, rn_notB, rn_intI, rn_intB, rn_tupL, rn_tupT, rn_tupM, rn_iseq, rn_ien, rn_tYes, dTr_bl, dTr_int, dTr_non, dTr_lst, rn_dk, rn_fld, rn_setFld, rn_meth, ck_I, oks_setFld_iff, oks_augFld_iff, oks_par_two, rn_lenS, rn_countS, ck_L, ck_S, exists_eq, exists_eq', MO.lst.injEq, oks_seq_iff, oks_set_iff, oks_drop_iff, oks_ret_iff, oks_retN_iff, oks_aug_iff, oks_asg_iff, oks_setIx_iff, oks_nx, oks_brk, oks_cnt, nxt_nx, nxt_rt, tgt1, tgt2, tgt3, List.getElem?_cons_zero, List.getElem?_cons_succ, Option.bind_some, id, Option.some.injEq, exists_eq_left', List.set_cons_succ, List.set_cons_zero, D.bl.injEq, D.int.injEq, SR.nx.injEq, SR.rt.injEq, true_and, and_true, if_true, if_false, Bool.not_true, Bool.not_false, Bool.false_eq_true, Bool.true_eq_false, decide_eq_true_eq, Bool.not_eq_true', decide_eq_false_iff_not, nxt_ex, eq_self, not_true_eq_false, not_false_eq_true]
          rw [rn_maxL (intsD_ints _) f1]
          try simp only [rn_op2, rn_cb, rn_nil, rn_cons, rn_un, rn_i2, rn_addI, rn_mul, rn_ci, rn_k, rn_var, rn_bm, rn_sl, rn_pNo, rn_pSome, rn_tBl, rn_tNt, rn_tAn, rn_tOo, rn_tTru, rn_and, rn_or, rn_not, rn_if, rn_chain, rn_rep, rn_kw, rn_mut, rn_lst, rn_ls, rn_tup, rn_app, rn_setM, rn_ixM, rn_ixL, rn_ixT, rn_lenL, rn_lenT, rn_lenM, rn_min2, rn_max2, rn_divmod, rn_eqI, rn_neI, rn_isN, rn_notN, rn_isB, rn_notB, rn_intI, rn_intB, rn_tupL, rn_tupT, rn_tupM, rn_iseq, rn_ien, rn_tYes, dTr_bl, dTr_int, dTr_non, dTr_lst, rn_dk, rn_fld, rn_setFld, rn_meth, ck_I, oks_setFld_iff, oks_augFld_iff, oks_par_two, rn_lenS, rn_countS, ck_L, ck_S, exists_eq, exists_eq', MO.lst.injEq, oks_seq_iff, oks_set_iff, oks_drop_iff, oks_ret_iff, oks_retN_iff, oks_aug_iff, oks_asg_iff, oks_setIx_iff, oks_nx, oks_brk, oks_cnt, nxt_nx, nxt_rt, tgt1, tgt2, tgt3, List.getElem?_cons_zero, List.getElem?_cons_succ, Option.bind_some, id, Option.some.injEq, exists_eq_left', List.set_cons_succ, List.set_cons_zero, D.bl.injEq, D.int.injEq, SR.nx.injEq, SR.rt.injEq, true_and, and_true, if_true, if_false, Bool.not_true, Bool.not_false, Bool.false_eq_true, Bool.true_eq_false, decide_eq_true_eq, Bool.not_eq_true', decide_eq_false_iff_not, nxt_ex, eq_self, not_true_eq_false, not_false_eq_true]
          by_cases hL : ∀ g ∈ runs 0 (gapD (along a r) (along b r)), g ≤ 0
          · rw [if_pos hL, if_pos (f2.mpr hL)]
            try simp only [rn_op2, rn_cb, rn_nil, rn_cons, rn_un, rn_i2, rn_addI, rn_mul, rn_ci, rn_k, rn_var, rn_bm, rn_sl, rn_pNo, rn_pSome, rn_tBl, rn_tNt, rn_tAn, rn_tOo, rn_tTru, rn_and, rn_or, rn_not, rn_if, rn_chain, rn_rep, rn_kw, rn_mut, rn_lst, rn_ls, rn_tup, rn_app, rn_setM, rn_ixM, rn_ixL, rn_ixT, rn_lenL, rn_lenT, rn_lenM, rn_min2, rn_max2, rn_divmod, rn_eqI, rn_neI, rn_isN, rn_notN, rn_isB, rn_notB, rn_intI, rn_intB, rn_tupL, rn_tupT, rn_tupM, rn_iseq, rn_ien, rn_tYes, dTr_bl, dTr_int, dTr_non, dTr_lst, rn_dk, rn_fld, rn_setFld, rn_meth, ck_I, oks_setFld_iff, oks_augFld_iff, oks_par_two, rn_lenS, rn_countS, ck_L, ck_S, exists_eq, exists_eq', MO.lst.injEq, oks_seq_iff, oks_set_iff, oks_drop_iff, oks_ret_iff, oks_retN_iff, oks_aug_iff, oks_asg_iff, oks_setIx_iff, oks_nx, oks_brk, oks_cnt, nxt_nx, nxt_rt, tgt1, tgt2, tgt3, List.getElem?_cons_zero, List.getElem?_cons_succ, Option.bind_some, id, Option.some.injEq, exists_eq_left', List.set_cons_succ, List.set_cons_zero, D.bl.injEq, D.int.injEq, SR.nx.injEq, SR.rt.injEq, true_and, and_true, if_true, if_false, Bool.not_true, Bool.not_false, Bool.false_eq_true, Bool.true_eq_false, decide_eq_true_eq, Bool.not_eq_true', decide_eq_false_iff_not, nxt_ex, eq_self, not_true_eq_false, not_false_eq_true]
          · have hL2 : ¬ M ≤ 0 := fun h => hL (f2.mp h)
            rw [if_neg hL, if_neg hL2]
            try simp only [rn_op2, rn_cb, rn_nil, rn_cons, rn_un, rn_i2, rn_addI, rn_mul, rn_ci, rn_k, rn_var, rn_bm, rn_sl, rn_pNo, rn_pSome, rn_tBl, rn_tNt, rn_tAn, rn_tOo, rn_tTru, rn_and, rn_or, rn_not, rn_if, rn_chain, rn_rep, rn_kw, rn_mut, rn_lst, rn_ls, rn_tup, rn_app, rn_setM, rn_ixM, rn_ixL, rn_ixT, rn_lenL, rn_lenT, rn_lenM, rn_min2, rn_max2, rn_divmod, rn_eqI, rn_neI, rn_isN, rn_notN, rn_isB, rn_notB, rn_intI, rn_intB, rn_tupL, rn_tupT, rn_tupM, rn_iseq, rn_ien, rn_tYes, dTr_bl, dTr_int, dTr_non, dTr_lst, rn_dk, rn_fld, rn_setFld, rn_meth, ck_I, oks_setFld_iff, oks_augFld_iff, oks_par_two, rn_lenS, rn_countS, ck_L, ck_S, exists_eq, exists_eq', MO.lst.injEq, oks_seq_iff, oks_set_iff, oks_drop_iff, oks_ret_iff, oks_retN_iff, oks_aug_iff, oks_asg_iff, oks_setIx_iff, oks_nx, oks_brk, oks_cnt, nxt_nx, nxt_rt, tgt1, tgt2, tgt3, List.getElem?_cons_zero, List.getElem?_cons_succ, Option.bind_some, id, Option.some.injEq, exists_eq_left', List.set_cons_succ, List.set_cons_zero, D.bl.injEq, D.int.injEq, SR.nx.injEq, SR.rt.injEq, true_and, and_true, if_true, if_false, Bool.not_true, Bool.not_false, Bool.false_eq_true, Bool.true_eq_false, decide_eq_true_eq, Bool.not_eq_true', decide_eq_false_iff_not, nxt_ex, eq_self, not_true_eq_false, not_false_eq_true]
end TX

namespace TX
open PySem PySem.Spec L2 DL
theorem cutD_mem {xs : List D} {lo hi : Option Int} {d : D} (h : d ∈ cutD xs lo hi) : d ∈ xs := by
  unfold cutD at h
  exact List.mem_of_mem_drop (List.mem_of_mem_take h)
theorem cutD_len (xs : List D) (lo hi : Option Int) : (cutD xs lo hi).length ≤ xs.length := by
  unfold cutD
  rw [List.length_take, List.length_drop]
  omega
theorem iD_set (xs : List Int) (k : Nat) (v : Int) : (iD xs).set k (.int v) = iD (xs.set k v) := by
  unfold iD; rw [List.map_set]
theorem gap_take {a b : List Int} {r : List Nat} {i k : Nat} (hk : r[i]? = some k) (ha : k < a.length) (hb : k < b.length) : gapD (along a (r.take (i + 1))) (along b (r.take (i + 1))) = gapD (along a (r.take i)) (along b (r.take i)) ++ [a[k] - b[k]] := by
  rw [gap_along, gap_along, List.take_succ, hk, List.map_append]
  simp [List.getD_eq_getElem?_getD, List.getElem?_eq_getElem ha, List.getElem?_eq_getElem hb]
theorem gap_len (a b : List Int) (r : List Nat) : (gapD (along a r) (along b r)).length = r.length := by rw [gap_along, List.length_map]
theorem word_ok {a b : List Int} {r : List Nat} {n : Nat} (ha : a.length = n) (hb : b.length = n) (hr : r.Perm (List.range n)) (hn : n ≤ 60) :
    Gives d_L_word [.tup (nD r), .tup (iD a), .tup (iD b)] (.str (cmpW a b r)) := by
  have hrl : r.length = n := by rw [hr.length_eq, List.length_range]
  intro μ
  refine denC_cut ?_
  unfold g_L_word
  try simp only [rn_op2, rn_cb, rn_nil, rn_cons, rn_un, rn_i2, rn_addI, rn_mul, rn_ci, rn_k, rn_var, rn_bm, rn_sl, rn_pNo, rn_pSome, rn_tBl, rn_tNt, rn_tAn, rn_tOo, rn_tTru, rn_and, rn_or, rn_not, rn_if, rn_chain, rn_rep, rn_kw, rn_mut, rn_lst, rn_ls, rn_tup, rn_app, rn_setM, rn_ixM, rn_ixL, rn_ixT, rn_lenL, rn_lenT, rn_lenM, rn_min2, rn_max2, rn_divmod, rn_eqI, rn_neI, rn_isN, rn_notN, rn_isB, rn_notB, rn_intI, rn_intB, rn_tupL, rn_tupT, rn_tupM, rn_iseq, rn_ien, rn_tYes, dTr_bl, dTr_int, dTr_non, dTr_lst, rn_dk, rn_fld, rn_setFld, rn_meth, ck_I, oks_setFld_iff, oks_augFld_iff, oks_par_two, rn_lenS, rn_countS, ck_L, ck_S, exists_eq, exists_eq', MO.lst.injEq, oks_seq_iff, oks_set_iff, oks_drop_iff, oks_ret_iff, oks_retN_iff, oks_aug_iff, oks_asg_iff, oks_setIx_iff, oks_nx, oks_brk, oks_cnt, nxt_nx, nxt_rt, tgt1, tgt2, tgt3, List.getElem?_cons_zero, List.getElem?_cons_succ, Option.bind_some, id, Option.some.injEq, exists_eq_left', List.set_cons_succ, List.set_cons_zero, D.bl.injEq, D.int.injEq, SR.nx.injEq, SR.rt.injEq, true_and, and_true, if_true, if_false, Bool.not_true, Bool.not_false, Bool.false_eq_true, Bool.true_eq_false, decide_eq_true_eq, Bool.not_eq_true', decide_eq_false_iff_not, nxt_ex, eq_self, not_true_eq_false, not_false_eq_true, st0, List.map_cons, List.map_nil, List.length_cons, List.length_nil, List.replicate, List.cons_append, List.nil_append, Nat.reduceAdd, Nat.reduceSub, Nat.zero_add, Nat.sub_self]
  refine ⟨by show 1 ≤ sizeLine; decide, ?_⟩
  refine oks_forR (fun items gs k sl μk => gs = [] ∧ items = nD r ∧ ∃ x5, sl = [some (.tup (nD r)), some (.tup (iD a)), some (.tup (iD b)), some (.mref μ.length), some (.int (gapD (along a (r.take k)) (along b (r.take k))).sum), x5] ∧ μk = μ ++ [some (.lst (iD (0 :: runs 0 (gapD (along a (r.take k)) (along b (r.take k))))))]) ?_
  rw [rn_iseqV rfl rfl]
  refine ⟨guard_nil _, ⟨rfl, rfl, none, rfl, rfl⟩, ?_, ?_⟩
  · rintro i d sl μk hd ⟨_, _, x5, rfl, rfl⟩
    have hd : (nD r)[i]? = some d := hd
    obtain ⟨k, hk, rfl⟩ : ∃ k, r[i]? = some k ∧ d = .int (k : Int) := by
      unfold nD at hd
      rw [List.getElem?_map, List.getElem?_map] at hd
      cases e : r[i]? with
      | none => rw [e] at hd; cases hd
      | some k => rw [e] at hd; cases hd; exact ⟨k, rfl, rfl⟩
    have hkr : k < n := List.mem_range.mp (hr.mem_iff.mp (List.mem_of_getElem? hk))
    have ia : i < r.length := (List.getElem?_eq_some_iff.mp hk).1
    refine ⟨_, rfl, ?_⟩
    try simp only [rn_op2, rn_cb, rn_nil, rn_cons, rn_un, rn_i2, rn_addI, rn_mul, rn_ci, rn_k, rn_var, rn_bm, rn_sl, rn_pNo, rn_pSome, rn_tBl, rn_tNt, rn_tAn, rn_tOo, rn_tTru, rn_and, rn_or, rn_not, rn_if, rn_chain, rn_rep, rn_kw, rn_mut, rn_lst, rn_ls, rn_tup, rn_app, rn_setM, rn_ixM, rn_ixL, rn_ixT, rn_lenL, rn_lenT, rn_lenM, rn_min2, rn_max2, rn_divmod, rn_eqI, rn_neI, rn_isN, rn_notN, rn_isB, rn_notB, rn_intI, rn_intB, rn_tupL, rn_tupT, rn_tupM, rn_iseq, rn_ien, rn_tYes, dTr_bl, dTr_int, dTr_non, dTr_lst, rn_dk, rn_fld, rn_setFld, rn_meth, ck_I, oks_setFld_iff, oks_augFld_iff, oks_par_two, rn_lenS, rn_countS, ck_L, ck_S, exists_eq, exists_eq', MO.lst.injEq, oks_seq_iff, oks_set_iff, oks_drop_iff, oks_ret_iff, oks_retN_iff, oks_aug_iff, oks_asg_iff, oks_setIx_iff, oks_nx, oks_brk, oks_cnt, nxt_nx, nxt_rt, tgt1, tgt2, tgt3, List.getElem?_cons_zero, List.getElem?_cons_succ, Option.bind_some, id, Option.some.injEq, exists_eq_left', List.set_cons_succ, List.set_cons_zero, D.bl.injEq, D.int.injEq, SR.nx.injEq, SR.rt.injEq, true_and, and_true, if_true, if_false, Bool.not_true, Bool.not_false, Bool.false_eq_true, Bool.true_eq_false, decide_eq_true_eq, Bool.not_eq_true', decide_eq_false_iff_not, nxt_ex, eq_self, not_true_eq_false, not_false_eq_true, ag0]
    refine ⟨_, atI_ok (iD_get (List.getElem?_eq_getElem (by omega : k < a.length))), ?_⟩
    try simp only [rn_op2, rn_cb, rn_nil, rn_cons, rn_un, rn_i2, rn_addI, rn_mul, rn_ci, rn_k, rn_var, rn_bm, rn_sl, rn_pNo, rn_pSome, rn_tBl, rn_tNt, rn_tAn, rn_tOo, rn_tTru, rn_and, rn_or, rn_not, rn_if, rn_chain, rn_rep, rn_kw, rn_mut, rn_lst, rn_ls, rn_tup, rn_app, rn_setM, rn_ixM, rn_ixL, rn_ixT, rn_lenL, rn_lenT, rn_lenM, rn_min2, rn_max2, rn_divmod, rn_eqI, rn_neI, rn_isN, rn_notN, rn_isB, rn_notB, rn_intI, rn_intB, rn_tupL, rn_tupT, rn_tupM, rn_iseq, rn_ien, rn_tYes, dTr_bl, dTr_int, dTr_non, dTr_lst, rn_dk, rn_fld, rn_setFld, rn_meth, ck_I, oks_setFld_iff, oks_augFld_iff, oks_par_two, rn_lenS, rn_countS, ck_L, ck_S, exists_eq, exists_eq', MO.lst.injEq, oks_seq_iff, oks_set_iff, oks_drop_iff, oks_ret_iff, oks_retN_iff, oks_aug_iff, oks_asg_iff, oks_setIx_iff, oks_nx, oks_brk, oks_cnt, nxt_nx, nxt_rt, tgt1, tgt2, tgt3, List.getElem?_cons_zero, List.getElem?_cons_succ, Option.bind_some, id, Option.some.injEq, exists_eq_left', List.set_cons_succ, List.set_cons_zero, D.bl.injEq, D.int.injEq, SR.nx.injEq, SR.rt.injEq, true_and, and_true, if_true, if_false, Bool.not_true, Bool.not_false, Bool.false_eq_true, Bool.true_eq_false, decide_eq_true_eq, Bool.not_eq_true', decide_eq_false_iff_not, nxt_ex, eq_self, not_true_eq_false, not_false_eq_true]
    refine ⟨_, atI_ok (iD_get (List.getElem?_eq_getElem (by omega : k < b.length))), ?_⟩
    try simp only [rn_op2, rn_cb, rn_nil, rn_cons, rn_un, rn_i2, rn_addI, rn_mul, rn_ci, rn_k, rn_var, rn_bm, rn_sl, rn_pNo, rn_pSome, rn_tBl, rn_tNt, rn_tAn, rn_tOo, rn_tTru, rn_and, rn_or, rn_not, rn_if, rn_chain, rn_rep, rn_kw, rn_mut, rn_lst, rn_ls, rn_tup, rn_app, rn_setM, rn_ixM, rn_ixL, rn_ixT, rn_lenL, rn_lenT, rn_lenM, rn_min2, rn_max2, rn_divmod, rn_eqI, rn_neI, rn_isN, rn_notN, rn_isB, rn_notB, rn_intI, rn_intB, rn_tupL, rn_tupT, rn_tupM, rn_iseq, rn_ien, rn_tYes, dTr_bl, dTr_int, dTr_non, dTr_lst, rn_dk, rn_fld, rn_setFld, rn_meth, ck_I, oks_setFld_iff, oks_augFld_iff, oks_par_two, rn_lenS, rn_countS, ck_L, ck_S, exists_eq, exists_eq', MO.lst.injEq, oks_seq_iff, oks_set_iff, oks_drop_iff, oks_ret_iff, oks_retN_iff, oks_aug_iff, oks_asg_iff, oks_setIx_iff, oks_nx, oks_brk, oks_cnt, nxt_nx, nxt_rt, tgt1, tgt2, tgt3, List.getElem?_cons_zero, List.getElem?_cons_succ, Option.bind_some, id, Option.some.injEq, exists_eq_left', List.set_cons_succ, List.set_cons_zero, D.bl.injEq, D.int.injEq, SR.nx.injEq, SR.rt.injEq, true_and, and_true, if_true, if_false, Bool.not_true, Bool.not_false, Bool.false_eq_true, Bool.true_eq_false, decide_eq_true_eq, Bool.not_eq_true', decide_eq_false_iff_not, nxt_ex, eq_self, not_true_eq_false, not_false_eq_true]
    have hka : k < a.length := by omega
    have hkb : k < b.length := by omega
    have eg := gap_take hk hka hkb
    refine ⟨⟨_, ag0 rfl⟩, _, ag0 rfl, Nat.lt_of_le_of_lt (m := 61) ?_ (by decide), guard_nil _, some (.int (k : Int)), ?_, ?_⟩
    · rw [iD_len, List.length_cons, runs_len, gap_len, List.length_take]; omega
    · rw [eg, List.sum_append, List.sum_singleton, Int.add_sub_assoc]
    · rw [as0 rfl, eg, runs_snoc, Int.zero_add, Int.add_sub_assoc]
      simp
  · rintro sl μk ⟨_, _, x5, rfl, rfl⟩
    try simp only [rn_op2, rn_cb, rn_nil, rn_cons, rn_un, rn_i2, rn_addI, rn_mul, rn_ci, rn_k, rn_var, rn_bm, rn_sl, rn_pNo, rn_pSome, rn_tBl, rn_tNt, rn_tAn, rn_tOo, rn_tTru, rn_and, rn_or, rn_not, rn_if, rn_chain, rn_rep, rn_kw, rn_mut, rn_lst, rn_ls, rn_tup, rn_app, rn_setM, rn_ixM, rn_ixL, rn_ixT, rn_lenL, rn_lenT, rn_lenM, rn_min2, rn_max2, rn_divmod, rn_eqI, rn_neI, rn_isN, rn_notN, rn_isB, rn_notB, rn_intI, rn_intB, rn_tupL, rn_tupT, rn_tupM, rn_iseq, rn_ien, rn_tYes, dTr_bl, dTr_int, dTr_non, dTr_lst, rn_dk, rn_fld, rn_setFld, rn_meth, ck_I, oks_setFld_iff, oks_augFld_iff, oks_par_two, rn_lenS, rn_countS, ck_L, ck_S, exists_eq, exists_eq', MO.lst.injEq, oks_seq_iff, oks_set_iff, oks_drop_iff, oks_ret_iff, oks_retN_iff, oks_aug_iff, oks_asg_iff, oks_setIx_iff, oks_nx, oks_brk, oks_cnt, nxt_nx, nxt_rt, tgt1, tgt2, tgt3, List.getElem?_cons_zero, List.getElem?_cons_succ, Option.bind_some, id, Option.some.injEq, exists_eq_left', List.set_cons_succ, List.set_cons_zero, D.bl.injEq, D.int.injEq, SR.nx.injEq, SR.rt.injEq, true_and, and_true, if_true, if_false, Bool.not_true, Bool.not_false, Bool.false_eq_true, Bool.true_eq_false, decide_eq_true_eq, Bool.not_eq_true', decide_eq_false_iff_not, nxt_ex, eq_self, not_true_eq_false, not_false_eq_true]
    rw [oks_if_iff]
    try simp only [rn_op2, rn_cb, rn_nil, rn_cons, rn_un, rn_i2, rn_addI, rn_mul, rn_ci, rn_k, rn_var, rn_bm, rn_sl, rn_pNo, rn_pSome, rn_tBl, rn_tNt, rn_tAn, rn_tOo, rn_tTru, rn_and, rn_or, rn_not, rn_if, rn_chain, rn_rep, rn_kw, rn_mut, rn_lst, rn_ls, rn_tup, rn_app, rn_setM, rn_ixM, rn_ixL, rn_ixT, rn_lenL, rn_lenT, rn_lenM, rn_min2, rn_max2, rn_divmod, rn_eqI, rn_neI, rn_isN, rn_notN, rn_isB, rn_notB, rn_intI, rn_intB, rn_tupL, rn_tupT, rn_tupM, rn_iseq, rn_ien, rn_tYes, dTr_bl, dTr_int, dTr_non, dTr_lst, rn_dk, rn_fld, rn_setFld, rn_meth, ck_I, oks_setFld_iff, oks_augFld_iff, oks_par_two, rn_lenS, rn_countS, ck_L, ck_S, exists_eq, exists_eq', MO.lst.injEq, oks_seq_iff, oks_set_iff, oks_drop_iff, oks_ret_iff, oks_retN_iff, oks_aug_iff, oks_asg_iff, oks_setIx_iff, oks_nx, oks_brk, oks_cnt, nxt_nx, nxt_rt, tgt1, tgt2, tgt3, List.getElem?_cons_zero, List.getElem?_cons_succ, Option.bind_some, id, Option.some.injEq, exists_eq_left', List.set_cons_succ, List.set_cons_zero, D.bl.injEq, D.int.injEq, SR.nx.injEq, SR.rt.injEq, true_and, and_true, if_true, if_false, Bool.not_true, Bool.not_false, Bool.false_eq_true, Bool.true_eq_false, decide_eq_true_eq, Bool.not_eq_true', decide_eq_false_iff_not, nxt_ex, eq_self, not_true_eq_false, not_false_eq_true]
    rw [rn_eqD (nice_intsT (by decide)) (nice_intsT (by decide))]
    refine ⟨_, rfl, ?_⟩
    have e0 : r.take (nD r).length = r := List.take_of_length_le (by rw [nD_len]; exact Nat.le_refl _)
    have e1 : (nD r, ([] : List (Nat × List D))).1 = nD r := rfl
    simp only [e0]
    have low : ∀ l : Mu, MuLow μ.length μ (μ ++ l) := fun l => muLow_app (muLow_refl _ _) rfl
    by_cases he : a = b
    · rw [if_pos (by simp [he])]
      unfold cmpW
      rw [if_pos he]
      exact ⟨trivial, low _, rfl, at0 rfl⟩
    · have he2 : ¬ D.tup (List.map D.int a) = D.tup (List.map D.int b) := fun h => he (iD_inj (D.tup.inj h))
      rw [if_neg (by simpa using he2)]
      rw [oks_if_iff]
      try simp only [rn_op2, rn_cb, rn_nil, rn_cons, rn_un, rn_i2, rn_addI, rn_mul, rn_ci, rn_k, rn_var, rn_bm, rn_sl, rn_pNo, rn_pSome, rn_tBl, rn_tNt, rn_tAn, rn_tOo, rn_tTru, rn_and, rn_or, rn_not, rn_if, rn_chain, rn_rep, rn_kw, rn_mut, rn_lst, rn_ls, rn_tup, rn_app, rn_setM, rn_ixM, rn_ixL, rn_ixT, rn_lenL, rn_lenT, rn_lenM, rn_min2, rn_max2, rn_divmod, rn_eqI, rn_neI, rn_isN, rn_notN, rn_isB, rn_notB, rn_intI, rn_intB, rn_tupL, rn_tupT, rn_tupM, rn_iseq, rn_ien, rn_tYes, dTr_bl, dTr_int, dTr_non, dTr_lst, rn_dk, rn_fld, rn_setFld, rn_meth, ck_I, oks_setFld_iff, oks_augFld_iff, oks_par_two, rn_lenS, rn_countS, ck_L, ck_S, exists_eq, exists_eq', MO.lst.injEq, oks_seq_iff, oks_set_iff, oks_drop_iff, oks_ret_iff, oks_retN_iff, oks_aug_iff, oks_asg_iff, oks_setIx_iff, oks_nx, oks_brk, oks_cnt, nxt_nx, nxt_rt, tgt1, tgt2, tgt3, List.getElem?_cons_zero, List.getElem?_cons_succ, Option.bind_some, id, Option.some.injEq, exists_eq_left', List.set_cons_succ, List.set_cons_zero, D.bl.injEq, D.int.injEq, SR.nx.injEq, SR.rt.injEq, true_and, and_true, if_true, if_false, Bool.not_true, Bool.not_false, Bool.false_eq_true, Bool.true_eq_false, decide_eq_true_eq, Bool.not_eq_true', decide_eq_false_iff_not, nxt_ex, eq_self, not_true_eq_false, not_false_eq_true]
      have hne : (0 :: runs 0 (gapD (along a r) (along b r))) ≠ [] := by simp
      obtain ⟨m, e1, e2⟩ := lMin_all hne
      obtain ⟨M, f1, f2⟩ := lMax_all hne
      rw [List.forall_mem_cons] at e2 f2
      rw [rn_minM (ag0 rfl) (intsD_ints _) e1]
      try simp only [rn_op2, rn_cb, rn_nil, rn_cons, rn_un, rn_i2, rn_addI, rn_mul, rn_ci, rn_k, rn_var, rn_bm, rn_sl, rn_pNo, rn_pSome, rn_tBl, rn_tNt, rn_tAn, rn_tOo, rn_tTru, rn_and, rn_or, rn_not, rn_if, rn_chain, rn_rep, rn_kw, rn_mut, rn_lst, rn_ls, rn_tup, rn_app, rn_setM, rn_ixM, rn_ixL, rn_ixT, rn_lenL, rn_lenT, rn_lenM, rn_min2, rn_max2, rn_divmod, rn_eqI, rn_neI, rn_isN, rn_notN, rn_isB, rn_notB, rn_intI, rn_intB, rn_tupL, rn_tupT, rn_tupM, rn_iseq, rn_ien, rn_tYes, dTr_bl, dTr_int, dTr_non, dTr_lst, rn_dk, rn_fld, rn_setFld, rn_meth, ck_I, oks_setFld_iff, oks_augFld_iff, oks_par_two, rn_lenS, rn_countS, ck_L, ck_S, exists_eq, exists_eq', MO.lst.injEq, oks_seq_iff, oks_set_iff, oks_drop_iff, oks_ret_iff, oks_retN_iff, oks_aug_iff, oks_asg_iff, oks_setIx_iff, oks_nx, oks_brk, oks_cnt, nxt_nx, nxt_rt, tgt1, tgt2, tgt3, List.getElem?_cons_zero, List.getElem?_cons_succ, Option.bind_some, id, Option.some.injEq, exists_eq_left', List.set_cons_succ, List.set_cons_zero, D.bl.injEq, D.int.injEq, SR.nx.injEq, SR.rt.injEq, true_and, and_true, if_true, if_false, Bool.not_true, Bool.not_false, Bool.false_eq_true, Bool.true_eq_false, decide_eq_true_eq, Bool.not_eq_true', decide_eq_false_iff_not, nxt_ex, eq_self, not_true_eq_false, not_false_eq_true]
      unfold cmpW
      rw [if_neg he]
      by_cases hg : ∀ g ∈ runs 0 (gapD (along a r) (along b r)), 0 ≤ g
      · rw [if_pos hg, if_pos (e2.mpr ⟨Int.le_refl _, hg⟩)]
        try simp only [rn_op2, rn_cb, rn_nil, rn_cons, rn_un, rn_i2, rn_addI, rn_mul, rn_ci, rn_k, rn_var, rn_bm, rn_sl, rn_pNo, rn_pSome, rn_tBl, rn_tNt, rn_tAn, rn_tOo, rn_tTru, rn_and, rn_or, rn_not, rn_if, rn_chain, rn_rep, rn_kw, rn_mut, rn_lst, rn_ls, rn_tup, rn_app, rn_setM, rn_ixM, rn_ixL, rn_ixT, rn_lenL, rn_lenT, rn_lenM, rn_min2, rn_max2, rn_divmod, rn_eqI, rn_neI, rn_isN, rn_notN, rn_isB, rn_notB, rn_intI, rn_intB, rn_tupL, rn_tupT, rn_tupM, rn_iseq, rn_ien, rn_tYes, dTr_bl, dTr_int, dTr_non, dTr_lst, rn_dk, rn_fld, rn_setFld, rn_meth, ck_I, oks_setFld_iff, oks_augFld_iff, oks_par_two, rn_lenS, rn_countS, ck_L, ck_S, exists_eq, exists_eq', MO.lst.injEq, oks_seq_iff, oks_set_iff, oks_drop_iff, oks_ret_iff, oks_retN_iff, oks_aug_iff, oks_asg_iff, oks_setIx_iff, oks_nx, oks_brk, oks_cnt, nxt_nx, nxt_rt, tgt1, tgt2, tgt3, List.getElem?_cons_zero, List.getElem?_cons_succ, Option.bind_some, id, Option.some.injEq, exists_eq_left', List.set_cons_succ, List.set_cons_zero, D.bl.injEq, D.int.injEq, SR.nx.injEq, SR.rt.injEq, true_and, and_true, if_true, if_false, Bool.not_true, Bool.not_false, Bool.false_eq_true, Bool.true_eq_false, decide_eq_true_eq, Bool.not_eq_true', decide_eq_false_iff_not, nxt_ex, eq_self, not_true_eq_false, not_false_eq_true]
        exact ⟨trivial, low _, at0 rfl⟩
      · have hg2 : ¬ 0 ≤ m := fun h => hg (e2.mp h).2
        rw [if_neg hg, if_neg hg2]
        try simp only [rn_op2, rn_cb, rn_nil, rn_cons, rn_un, rn_i2, rn_addI, rn_mul, rn_ci, rn_k, rn_var, rn_bm, rn_sl, rn_pNo, rn_pSome, rn_tBl, rn_tNt, rn_tAn, rn_tOo, rn_tTru, rn_and, rn_or, rn_not, rn_if, rn_chain, rn_rep, rn_kw, rn_mut, rn_lst, rn_ls, rn_tup, rn_app, rn_setM, rn_ixM, rn_ixL, rn_ixT, rn_lenL, rn_lenT, rn_lenM, rn_min2, rn_max2, rn_divmod, rn_eqI, rn_neI, rn_isN, rn_notN, rn_isB, rn_notB, rn_intI, rn_intB, rn_tupL, rn_tupT, rn_tupM, rn_iseq, rn_ien, rn_tYes, dTr_bl, dTr_int, dTr_non, dTr_lst, rn_dk, rn_fld, rn_setFld, rn_meth, ck_I, oks_setFld_iff, oks_augFld_iff, oks_par_two, rn_lenS, rn_countS, ck_L, ck_S, exists_eq, exists_eq', MO.lst.injEq, oks_seq_iff, oks_set_iff, oks_drop_iff, oks_ret_iff, oks_retN_iff, oks_aug_iff, oks_asg_iff, oks_setIx_iff, oks_nx, oks_brk, oks_cnt, nxt_nx, nxt_rt, tgt1, tgt2, tgt3, List.getElem?_cons_zero, List.getElem?_cons_succ, Option.bind_some, id, Option.some.injEq, exists_eq_left', List.set_cons_succ, List.set_cons_zero, D.bl.injEq, D.int.injEq, SR.nx.injEq, SR.rt.injEq, true_and, and_true, if_true, if_false, Bool.not_true, Bool.not_false, Bool.false_eq_true, Bool.true_eq_false, decide_eq_true_eq, Bool.not_eq_true', decide_eq_false_iff_not, nxt_ex, eq_self, not_true_eq_false, not_false_eq_true]
        rw [rn_maxM (ag0 rfl) (intsD_ints _) f1]
        try simp only [rn_op2, rn_cb, rn_nil, rn_cons, rn_un, rn_i2, rn_addI, rn_mul, rn_ci, rn_k, rn_var, rn_bm, rn_sl, rn_pNo, rn_pSome, rn_tBl, rn_tNt, rn_tAn, rn_tOo, rn_tTru, rn_and, rn_or, rn_not, rn_if, rn_chain, rn_rep, rn_kw, rn_mut, rn_lst, rn_ls, rn_tup, rn_app, rn_setM, rn_ixM, rn_ixL, rn_ixT, rn_lenL, rn_lenT, rn_lenM, rn_min2, rn_max2, rn_divmod, rn_eqI, rn_neI, rn_isN, rn_notN, rn_isB, rn_notB, rn_intI, rn_intB, rn_tupL, rn_tupT, rn_tupM, rn_iseq, rn_ien, rn_tYes, dTr_bl, dTr_int, dTr_non, dTr_lst, rn_dk, rn_fld, rn_setFld, rn_meth, ck_I, oks_setFld_iff, oks_augFld_iff, oks_par_two, rn_lenS, rn_countS, ck_L, ck_S, exists_eq, exists_eq', MO.lst.injEq, oks_seq_iff, oks_set_iff, oks_drop_iff, oks_ret_iff, oks_retN_iff, oks_aug_iff, oks_asg_iff, oks_setIx_iff, oks_nx, oks_brk, oks_cnt, nxt_nx, nxt_rt, tgt1, tgt2, tgt3, List.getElem?_cons_zero, List.getElem?_cons_succ, Option.bind_some, id, Option.some.injEq, exists_eq_left', List.set_cons_succ, List.set_cons_zero, D.bl.injEq, D.int.injEq, SR.nx.injEq, SR.rt.injEq, true_and, and_true, if_true, if_false, Bool.not_true, Bool.not_false, Bool.false_eq_true, Bool.true_eq_false, decide_eq_true_eq, Bool.not_eq_true', decide_eq_false_iff_not, nxt_ex, eq_self, not_true_eq_false, not_false_eq_true]
        by_cases hL : ∀ g ∈ runs 0 (gapD (along a r) (along b r)), g ≤ 0
        · rw [if_pos hL, if_pos (f2.mpr ⟨Int.le_refl _, hL⟩)]
          exact ⟨trivial, low _, rfl, at0 rfl⟩
        · have hL2 : ¬ M ≤ 0 := fun h => hL (f2.mp h).2
          rw [if_neg hL, if_neg hL2]
          exact ⟨trivial, low _, rfl, at0 rfl⟩
end TX

namespace TX
open PySem PySem.Spec L2 DL
theorem moved_ok {h : Nat} {b c : Int} {μ : Mu} {a : List Int} (hs : Src μ h b c) (b0 : 0 ≤ b) (b1 : b < 2 ^ 31) (h0 : 0 ≤ c) (h1 : c < 2 ^ 40) (ha : a.length ≤ 60) (ha0 : ∀ x ∈ a, 0 ≤ x) :
    Ok (d_L_moved [.mref h, .tup (iD a)]) μ fun d μ1 => Drawn μ μ1 h b c 4 ∧ ∃ ys : List Int, d = .tup (iD ys) ∧ ys.length = a.length ∧ ∀ y ∈ ys, 0 ≤ y := by
  have hl := hs.lt
  refine denC_cut ?_
  unfold g_L_moved
  try simp only [rn_op2, rn_cb, rn_nil, rn_cons, rn_un, rn_i2, rn_addI, rn_mul, rn_ci, rn_k, rn_var, rn_bm, rn_sl, rn_pNo, rn_pSome, rn_tBl, rn_tNt, rn_tAn, rn_tOo, rn_tTru, rn_and, rn_or, rn_not, rn_if, rn_chain, rn_rep, rn_kw, rn_mut, rn_lst, rn_ls, rn_tup, rn_app, rn_setM, rn_ixM, rn_ixL, rn_ixT, rn_lenL, rn_lenT, rn_lenM, rn_min2, rn_max2, rn_divmod, rn_eqI, rn_neI, rn_isN, rn_notN, rn_isB, rn_notB, rn_intI, rn_intB, rn_tupL, rn_tupT, rn_tupM, rn_iseq, rn_ien, rn_tYes, dTr_bl, dTr_int, dTr_non, dTr_lst, rn_dk, rn_fld, rn_setFld, rn_meth, ck_I, oks_setFld_iff, oks_augFld_iff, oks_par_two, rn_lenS, rn_countS, ck_L, ck_S, exists_eq, exists_eq', MO.lst.injEq, oks_seq_iff, oks_set_iff, oks_drop_iff, oks_ret_iff, oks_retN_iff, oks_aug_iff, oks_asg_iff, oks_setIx_iff, oks_nx, oks_brk, oks_cnt, nxt_nx, nxt_rt, tgt1, tgt2, tgt3, List.getElem?_cons_zero, List.getElem?_cons_succ, Option.bind_some, id, Option.some.injEq, exists_eq_left', List.set_cons_succ, List.set_cons_zero, D.bl.injEq, D.int.injEq, SR.nx.injEq, SR.rt.injEq, true_and, and_true, if_true, if_false, Bool.not_true, Bool.not_false, Bool.false_eq_true, Bool.true_eq_false, decide_eq_true_eq, Bool.not_eq_true', decide_eq_false_iff_not, nxt_ex, eq_self, not_true_eq_false, not_false_eq_true, st0, List.map_cons, List.map_nil, List.length_cons, List.length_nil, List.replicate, List.cons_append, List.nil_append, Nat.reduceAdd, Nat.reduceSub, Nat.zero_add, Nat.sub_self]
  rw [rn_listT]
  try simp only [rn_op2, rn_cb, rn_nil, rn_cons, rn_un, rn_i2, rn_addI, rn_mul, rn_ci, rn_k, rn_var, rn_bm, rn_sl, rn_pNo, rn_pSome, rn_tBl, rn_tNt, rn_tAn, rn_tOo, rn_tTru, rn_and, rn_or, rn_not, rn_if, rn_chain, rn_rep, rn_kw, rn_mut, rn_lst, rn_ls, rn_tup, rn_app, rn_setM, rn_ixM, rn_ixL, rn_ixT, rn_lenL, rn_lenT, rn_lenM, rn_min2, rn_max2, rn_divmod, rn_eqI, rn_neI, rn_isN, rn_notN, rn_isB, rn_notB, rn_intI, rn_intB, rn_tupL, rn_tupT, rn_tupM, rn_iseq, rn_ien, rn_tYes, dTr_bl, dTr_int, dTr_non, dTr_lst, rn_dk, rn_fld, rn_setFld, rn_meth, ck_I, oks_setFld_iff, oks_augFld_iff, oks_par_two, rn_lenS, rn_countS, ck_L, ck_S, exists_eq, exists_eq', MO.lst.injEq, oks_seq_iff, oks_set_iff, oks_drop_iff, oks_ret_iff, oks_retN_iff, oks_aug_iff, oks_asg_iff, oks_setIx_iff, oks_nx, oks_brk, oks_cnt, nxt_nx, nxt_rt, tgt1, tgt2, tgt3, List.getElem?_cons_zero, List.getElem?_cons_succ, Option.bind_some, id, Option.some.injEq, exists_eq_left', List.set_cons_succ, List.set_cons_zero, D.bl.injEq, D.int.injEq, SR.nx.injEq, SR.rt.injEq, true_and, and_true, if_true, if_false, Bool.not_true, Bool.not_false, Bool.false_eq_true, Bool.true_eq_false, decide_eq_true_eq, Bool.not_eq_true', decide_eq_false_iff_not, nxt_ex, eq_self, not_true_eq_false, not_false_eq_true]
  refine ⟨Nat.le_trans (by rw [iD_len]; exact ha) (by decide), ?_⟩
  rw [oks_if_iff]
  try simp only [rn_op2, rn_cb, rn_nil, rn_cons, rn_un, rn_i2, rn_addI, rn_mul, rn_ci, rn_k, rn_var, rn_bm, rn_sl, rn_pNo, rn_pSome, rn_tBl, rn_tNt, rn_tAn, rn_tOo, rn_tTru, rn_and, rn_or, rn_not, rn_if, rn_chain, rn_rep, rn_kw, rn_mut, rn_lst, rn_ls, rn_tup, rn_app, rn_setM, rn_ixM, rn_ixL, rn_ixT, rn_lenL, rn_lenT, rn_lenM, rn_min2, rn_max2, rn_divmod, rn_eqI, rn_neI, rn_isN, rn_notN, rn_isB, rn_notB, rn_intI, rn_intB, rn_tupL, rn_tupT, rn_tupM, rn_iseq, rn_ien, rn_tYes, dTr_bl, dTr_int, dTr_non, dTr_lst, rn_dk, rn_fld, rn_setFld, rn_meth, ck_I, oks_setFld_iff, oks_augFld_iff, oks_par_two, rn_lenS, rn_countS, ck_L, ck_S, exists_eq, exists_eq', MO.lst.injEq, oks_seq_iff, oks_set_iff, oks_drop_iff, oks_ret_iff, oks_retN_iff, oks_aug_iff, oks_asg_iff, oks_setIx_iff, oks_nx, oks_brk, oks_cnt, nxt_nx, nxt_rt, tgt1, tgt2, tgt3, List.getElem?_cons_zero, List.getElem?_cons_succ, Option.bind_some, id, Option.some.injEq, exists_eq_left', List.set_cons_succ, List.set_cons_zero, D.bl.injEq, D.int.injEq, SR.nx.injEq, SR.rt.injEq, true_and, and_true, if_true, if_false, Bool.not_true, Bool.not_false, Bool.false_eq_true, Bool.true_eq_false, decide_eq_true_eq, Bool.not_eq_true', decide_eq_false_iff_not, nxt_ex, eq_self, not_true_eq_false, not_false_eq_true]
  refine ⟨Nat.zero_le _, ?_⟩
  rw [rn_eqM (y := .lst []) (ag0 rfl) (nice_ints (by decide)) ⟨by decide, trivial⟩]
  refine ⟨_, rfl, ?_⟩
  by_cases he : a = []
  · subst he
    rw [if_pos (by simp)]
    try simp only [rn_op2, rn_cb, rn_nil, rn_cons, rn_un, rn_i2, rn_addI, rn_mul, rn_ci, rn_k, rn_var, rn_bm, rn_sl, rn_pNo, rn_pSome, rn_tBl, rn_tNt, rn_tAn, rn_tOo, rn_tTru, rn_and, rn_or, rn_not, rn_if, rn_chain, rn_rep, rn_kw, rn_mut, rn_lst, rn_ls, rn_tup, rn_app, rn_setM, rn_ixM, rn_ixL, rn_ixT, rn_lenL, rn_lenT, rn_lenM, rn_min2, rn_max2, rn_divmod, rn_eqI, rn_neI, rn_isN, rn_notN, rn_isB, rn_notB, rn_intI, rn_intB, rn_tupL, rn_tupT, rn_tupM, rn_iseq, rn_ien, rn_tYes, dTr_bl, dTr_int, dTr_non, dTr_lst, rn_dk, rn_fld, rn_setFld, rn_meth, ck_I, oks_setFld_iff, oks_augFld_iff, oks_par_two, rn_lenS, rn_countS, ck_L, ck_S, exists_eq, exists_eq', MO.lst.injEq, oks_seq_iff, oks_set_iff, oks_drop_iff, oks_ret_iff, oks_retN_iff, oks_aug_iff, oks_asg_iff, oks_setIx_iff, oks_nx, oks_brk, oks_cnt, nxt_nx, nxt_rt, tgt1, tgt2, tgt3, List.getElem?_cons_zero, List.getElem?_cons_succ, Option.bind_some, id, Option.some.injEq, exists_eq_left', List.set_cons_succ, List.set_cons_zero, D.bl.injEq, D.int.injEq, SR.nx.injEq, SR.rt.injEq, true_and, and_true, if_true, if_false, Bool.not_true, Bool.not_false, Bool.false_eq_true, Bool.true_eq_false, decide_eq_true_eq, Bool.not_eq_true', decide_eq_false_iff_not, nxt_ex, eq_self, not_true_eq_false, not_false_eq_true]
    exact ⟨Nat.zero_le _, trivial, muLow_app (muLow_refl _ _) rfl, by rw [at0 rfl]; exact (Drawn.zero hs h0).mono (by decide), [], rfl, rfl, by simp⟩
  · rw [if_neg (by simpa using he)]
    refine oks_forR (fun items gs k sl μk => gs = [] ∧ (∀ d ∈ items, d = .int (-1) ∨ d = .int 1) ∧ items.length ≤ 2 ∧ ∃ (x3 x4 : Option D) (σ : Mu) (ys : List Int), sl = [some (.mref h), some (.tup (iD a)), some (.mref μ.length), x3, x4] ∧ μk = σ ++ [some (.lst (iD ys))] ∧ ys.length = a.length ∧ (∀ y ∈ ys, 0 ≤ y) ∧ Drawn μ σ h b c (2 + k)) ?_
    try simp only [rn_op2, rn_cb, rn_nil, rn_cons, rn_un, rn_i2, rn_addI, rn_mul, rn_ci, rn_k, rn_var, rn_bm, rn_sl, rn_pNo, rn_pSome, rn_tBl, rn_tNt, rn_tAn, rn_tOo, rn_tTru, rn_and, rn_or, rn_not, rn_if, rn_chain, rn_rep, rn_kw, rn_mut, rn_lst, rn_ls, rn_tup, rn_app, rn_setM, rn_ixM, rn_ixL, rn_ixT, rn_lenL, rn_lenT, rn_lenM, rn_min2, rn_max2, rn_divmod, rn_eqI, rn_neI, rn_isN, rn_notN, rn_isB, rn_notB, rn_intI, rn_intB, rn_tupL, rn_tupT, rn_tupM, rn_iseq, rn_ien, rn_tYes, dTr_bl, dTr_int, dTr_non, dTr_lst, rn_dk, rn_fld, rn_setFld, rn_meth, ck_I, oks_setFld_iff, oks_augFld_iff, oks_par_two, rn_lenS, rn_countS, ck_L, ck_S, exists_eq, exists_eq', MO.lst.injEq, oks_seq_iff, oks_set_iff, oks_drop_iff, oks_ret_iff, oks_retN_iff, oks_aug_iff, oks_asg_iff, oks_setIx_iff, oks_nx, oks_brk, oks_cnt, nxt_nx, nxt_rt, tgt1, tgt2, tgt3, List.getElem?_cons_zero, List.getElem?_cons_succ, Option.bind_some, id, Option.some.injEq, exists_eq_left', List.set_cons_succ, List.set_cons_zero, D.bl.injEq, D.int.injEq, SR.nx.injEq, SR.rt.injEq, true_and, and_true, if_true, if_false, Bool.not_true, Bool.not_false, Bool.false_eq_true, Bool.true_eq_false, decide_eq_true_eq, Bool.not_eq_true', decide_eq_false_iff_not, nxt_ex, eq_self, not_true_eq_false, not_false_eq_true]
    refine ⟨by show 2 ≤ sizeLine; decide, ?_⟩
    rw [rn_call]
    refine ⟨rfl, Ok.rn ((take_ok hs.app b0 b1 h0 (by omega) (by decide) (smallS (by decide) (by decide))).imp ?_)⟩
    rintro d μ1 ⟨dr1, r, rfl, r0, r1⟩
    obtain ⟨σ1, rfl, dr3⟩ := dr1.app hl
    obtain ⟨c2, s2, c20, c21⟩ := dr3.src hl
    try simp only [rn_op2, rn_cb, rn_nil, rn_cons, rn_un, rn_i2, rn_addI, rn_mul, rn_ci, rn_k, rn_var, rn_bm, rn_sl, rn_pNo, rn_pSome, rn_tBl, rn_tNt, rn_tAn, rn_tOo, rn_tTru, rn_and, rn_or, rn_not, rn_if, rn_chain, rn_rep, rn_kw, rn_mut, rn_lst, rn_ls, rn_tup, rn_app, rn_setM, rn_ixM, rn_ixL, rn_ixT, rn_lenL, rn_lenT, rn_lenM, rn_min2, rn_max2, rn_divmod, rn_eqI, rn_neI, rn_isN, rn_notN, rn_isB, rn_notB, rn_intI, rn_intB, rn_tupL, rn_tupT, rn_tupM, rn_iseq, rn_ien, rn_tYes, dTr_bl, dTr_int, dTr_non, dTr_lst, rn_dk, rn_fld, rn_setFld, rn_meth, ck_I, oks_setFld_iff, oks_augFld_iff, oks_par_two, rn_lenS, rn_countS, ck_L, ck_S, exists_eq, exists_eq', MO.lst.injEq, oks_seq_iff, oks_set_iff, oks_drop_iff, oks_ret_iff, oks_retN_iff, oks_aug_iff, oks_asg_iff, oks_setIx_iff, oks_nx, oks_brk, oks_cnt, nxt_nx, nxt_rt, tgt1, tgt2, tgt3, List.getElem?_cons_zero, List.getElem?_cons_succ, Option.bind_some, id, Option.some.injEq, exists_eq_left', List.set_cons_succ, List.set_cons_zero, D.bl.injEq, D.int.injEq, SR.nx.injEq, SR.rt.injEq, true_and, and_true, if_true, if_false, Bool.not_true, Bool.not_false, Bool.false_eq_true, Bool.true_eq_false, decide_eq_true_eq, Bool.not_eq_true', decide_eq_false_iff_not, nxt_ex, eq_self, not_true_eq_false, not_false_eq_true]
    rw [rn_slL]
    try simp only [rn_op2, rn_cb, rn_nil, rn_cons, rn_un, rn_i2, rn_addI, rn_mul, rn_ci, rn_k, rn_var, rn_bm, rn_sl, rn_pNo, rn_pSome, rn_tBl, rn_tNt, rn_tAn, rn_tOo, rn_tTru, rn_and, rn_or, rn_not, rn_if, rn_chain, rn_rep, rn_kw, rn_mut, rn_lst, rn_ls, rn_tup, rn_app, rn_setM, rn_ixM, rn_ixL, rn_ixT, rn_lenL, rn_lenT, rn_lenM, rn_min2, rn_max2, rn_divmod, rn_eqI, rn_neI, rn_isN, rn_notN, rn_isB, rn_notB, rn_intI, rn_intB, rn_tupL, rn_tupT, rn_tupM, rn_iseq, rn_ien, rn_tYes, dTr_bl, dTr_int, dTr_non, dTr_lst, rn_dk, rn_fld, rn_setFld, rn_meth, ck_I, oks_setFld_iff, oks_augFld_iff, oks_par_two, rn_lenS, rn_countS, ck_L, ck_S, exists_eq, exists_eq', MO.lst.injEq, oks_seq_iff, oks_set_iff, oks_drop_iff, oks_ret_iff, oks_retN_iff, oks_aug_iff, oks_asg_iff, oks_setIx_iff, oks_nx, oks_brk, oks_cnt, nxt_nx, nxt_rt, tgt1, tgt2, tgt3, List.getElem?_cons_zero, List.getElem?_cons_succ, Option.bind_some, id, Option.some.injEq, exists_eq_left', List.set_cons_succ, List.set_cons_zero, D.bl.injEq, D.int.injEq, SR.nx.injEq, SR.rt.injEq, true_and, and_true, if_true, if_false, Bool.not_true, Bool.not_false, Bool.false_eq_true, Bool.true_eq_false, decide_eq_true_eq, Bool.not_eq_true', decide_eq_false_iff_not, nxt_ex, eq_self, not_true_eq_false, not_false_eq_true]
    rw [rn_call]
    refine ⟨rfl, Ok.rn ((take_ok s2.app b0 b1 c20 (by omega) (by decide) (smallS (by decide) (by decide))).imp ?_)⟩
    rintro d μ2 ⟨dr2, r', rfl, r0', r1'⟩
    obtain ⟨σ2, rfl, dr4⟩ := dr2.app (by rw [dr3.len]; exact hl)
    have dr := dr3.trans c21 dr4
    try simp only [rn_op2, rn_cb, rn_nil, rn_cons, rn_un, rn_i2, rn_addI, rn_mul, rn_ci, rn_k, rn_var, rn_bm, rn_sl, rn_pNo, rn_pSome, rn_tBl, rn_tNt, rn_tAn, rn_tOo, rn_tTru, rn_and, rn_or, rn_not, rn_if, rn_chain, rn_rep, rn_kw, rn_mut, rn_lst, rn_ls, rn_tup, rn_app, rn_setM, rn_ixM, rn_ixL, rn_ixT, rn_lenL, rn_lenT, rn_lenM, rn_min2, rn_max2, rn_divmod, rn_eqI, rn_neI, rn_isN, rn_notN, rn_isB, rn_notB, rn_intI, rn_intB, rn_tupL, rn_tupT, rn_tupM, rn_iseq, rn_ien, rn_tYes, dTr_bl, dTr_int, dTr_non, dTr_lst, rn_dk, rn_fld, rn_setFld, rn_meth, ck_I, oks_setFld_iff, oks_augFld_iff, oks_par_two, rn_lenS, rn_countS, ck_L, ck_S, exists_eq, exists_eq', MO.lst.injEq, oks_seq_iff, oks_set_iff, oks_drop_iff, oks_ret_iff, oks_retN_iff, oks_aug_iff, oks_asg_iff, oks_setIx_iff, oks_nx, oks_brk, oks_cnt, nxt_nx, nxt_rt, tgt1, tgt2, tgt3, List.getElem?_cons_zero, List.getElem?_cons_succ, Option.bind_some, id, Option.some.injEq, exists_eq_left', List.set_cons_succ, List.set_cons_zero, D.bl.injEq, D.int.injEq, SR.nx.injEq, SR.rt.injEq, true_and, and_true, if_true, if_false, Bool.not_true, Bool.not_false, Bool.false_eq_true, Bool.true_eq_false, decide_eq_true_eq, Bool.not_eq_true', decide_eq_false_iff_not, nxt_ex, eq_self, not_true_eq_false, not_false_eq_true]
    rw [rn_slL]
    have hmem : ∀ d ∈ cutD (cutD [.int (-1), .int 1] (some r) none) none (some (1 + r')), d = .int (-1) ∨ d = .int 1 := fun d hd => by
      have := cutD_mem (cutD_mem hd)
      simpa using this
    have hlen2 : (cutD (cutD [.int (-1), .int 1] (some r) none) none (some (1 + r'))).length ≤ 2 := Nat.le_trans (cutD_len _ _ _) (cutD_len _ _ _)
    refine ⟨_, rfl, guard_nil _, ⟨rfl, hmem, hlen2, none, none, σ2, a, rfl, rfl, rfl, ha0, dr⟩, ?_, ?_⟩
    · rintro i d sl μk hd ⟨_, hm, hl2, x3, x4, σ, ys, rfl, rfl, hy, hy0, drw⟩
      have hi2 : i < 2 := Nat.lt_of_lt_of_le (List.getElem?_eq_some_iff.mp hd).1 hl2
      obtain ⟨s, rfl, hs1⟩ : ∃ s : Int, d = .int s ∧ (s = -1 ∨ s = 1) := by
        rcases hm d (List.mem_of_getElem? hd) with rfl | rfl
        · exact ⟨-1, rfl, .inl rfl⟩
        · exact ⟨1, rfl, .inr rfl⟩
      have hσ : σ.length = μ.length := drw.len
      obtain ⟨c3, s3, c30, c31⟩ := drw.src hl
      have hp : 0 < ys.length := by rw [hy]; exact List.length_pos_iff.mpr he
      refine ⟨_, rfl, ?_⟩
      try simp only [rn_op2, rn_cb, rn_nil, rn_cons, rn_un, rn_i2, rn_addI, rn_mul, rn_ci, rn_k, rn_var, rn_bm, rn_sl, rn_pNo, rn_pSome, rn_tBl, rn_tNt, rn_tAn, rn_tOo, rn_tTru, rn_and, rn_or, rn_not, rn_if, rn_chain, rn_rep, rn_kw, rn_mut, rn_lst, rn_ls, rn_tup, rn_app, rn_setM, rn_ixM, rn_ixL, rn_ixT, rn_lenL, rn_lenT, rn_lenM, rn_min2, rn_max2, rn_divmod, rn_eqI, rn_neI, rn_isN, rn_notN, rn_isB, rn_notB, rn_intI, rn_intB, rn_tupL, rn_tupT, rn_tupM, rn_iseq, rn_ien, rn_tYes, dTr_bl, dTr_int, dTr_non, dTr_lst, rn_dk, rn_fld, rn_setFld, rn_meth, ck_I, oks_setFld_iff, oks_augFld_iff, oks_par_two, rn_lenS, rn_countS, ck_L, ck_S, exists_eq, exists_eq', MO.lst.injEq, oks_seq_iff, oks_set_iff, oks_drop_iff, oks_ret_iff, oks_retN_iff, oks_aug_iff, oks_asg_iff, oks_setIx_iff, oks_nx, oks_brk, oks_cnt, nxt_nx, nxt_rt, tgt1, tgt2, tgt3, List.getElem?_cons_zero, List.getElem?_cons_succ, Option.bind_some, id, Option.some.injEq, exists_eq_left', List.set_cons_succ, List.set_cons_zero, D.bl.injEq, D.int.injEq, SR.nx.injEq, SR.rt.injEq, true_and, and_true, if_true, if_false, Bool.not_true, Bool.not_false, Bool.false_eq_true, Bool.true_eq_false, decide_eq_true_eq, Bool.not_eq_true', decide_eq_false_iff_not, nxt_ex, eq_self, not_true_eq_false, not_false_eq_true, ag0 hσ, iD_len]
      rw [rn_call]
      refine ⟨rfl, Ok.rn ((take_ok (n := (ys.length : Int)) s3.app b0 b1 c30 (by omega) (by omega) (smallS (by omega) (by omega))).imp ?_)⟩
      rintro d μ3 ⟨dr3, q, rfl, q0, q1⟩
      obtain ⟨σ3, rfl, dr5⟩ := dr3.app (by rw [hσ]; exact hl)
      have hσ3 : σ3.length = μ.length := by rw [dr5.len, hσ]
      obtain ⟨k, rfl⟩ := Int.eq_ofNat_of_zero_le q0
      have hk : k < ys.length := by omega
      try simp only [rn_op2, rn_cb, rn_nil, rn_cons, rn_un, rn_i2, rn_addI, rn_mul, rn_ci, rn_k, rn_var, rn_bm, rn_sl, rn_pNo, rn_pSome, rn_tBl, rn_tNt, rn_tAn, rn_tOo, rn_tTru, rn_and, rn_or, rn_not, rn_if, rn_chain, rn_rep, rn_kw, rn_mut, rn_lst, rn_ls, rn_tup, rn_app, rn_setM, rn_ixM, rn_ixL, rn_ixT, rn_lenL, rn_lenT, rn_lenM, rn_min2, rn_max2, rn_divmod, rn_eqI, rn_neI, rn_isN, rn_notN, rn_isB, rn_notB, rn_intI, rn_intB, rn_tupL, rn_tupT, rn_tupM, rn_iseq, rn_ien, rn_tYes, dTr_bl, dTr_int, dTr_non, dTr_lst, rn_dk, rn_fld, rn_setFld, rn_meth, ck_I, oks_setFld_iff, oks_augFld_iff, oks_par_two, rn_lenS, rn_countS, ck_L, ck_S, exists_eq, exists_eq', MO.lst.injEq, oks_seq_iff, oks_set_iff, oks_drop_iff, oks_ret_iff, oks_retN_iff, oks_aug_iff, oks_asg_iff, oks_setIx_iff, oks_nx, oks_brk, oks_cnt, nxt_nx, nxt_rt, tgt1, tgt2, tgt3, List.getElem?_cons_zero, List.getElem?_cons_succ, Option.bind_some, id, Option.some.injEq, exists_eq_left', List.set_cons_succ, List.set_cons_zero, D.bl.injEq, D.int.injEq, SR.nx.injEq, SR.rt.injEq, true_and, and_true, if_true, if_false, Bool.not_true, Bool.not_false, Bool.false_eq_true, Bool.true_eq_false, decide_eq_true_eq, Bool.not_eq_true', decide_eq_false_iff_not, nxt_ex, eq_self, not_true_eq_false, not_false_eq_true, ag0 hσ3]
      refine ⟨_, atI_ok (iD_get (List.getElem?_eq_getElem hk)), ?_⟩
      try simp only [rn_op2, rn_cb, rn_nil, rn_cons, rn_un, rn_i2, rn_addI, rn_mul, rn_ci, rn_k, rn_var, rn_bm, rn_sl, rn_pNo, rn_pSome, rn_tBl, rn_tNt, rn_tAn, rn_tOo, rn_tTru, rn_and, rn_or, rn_not, rn_if, rn_chain, rn_rep, rn_kw, rn_mut, rn_lst, rn_ls, rn_tup, rn_app, rn_setM, rn_ixM, rn_ixL, rn_ixT, rn_lenL, rn_lenT, rn_lenM, rn_min2, rn_max2, rn_divmod, rn_eqI, rn_neI, rn_isN, rn_notN, rn_isB, rn_notB, rn_intI, rn_intB, rn_tupL, rn_tupT, rn_tupM, rn_iseq, rn_ien, rn_tYes, dTr_bl, dTr_int, dTr_non, dTr_lst, rn_dk, rn_fld, rn_setFld, rn_meth, ck_I, oks_setFld_iff, oks_augFld_iff, oks_par_two, rn_lenS, rn_countS, ck_L, ck_S, exists_eq, exists_eq', MO.lst.injEq, oks_seq_iff, oks_set_iff, oks_drop_iff, oks_ret_iff, oks_retN_iff, oks_aug_iff, oks_asg_iff, oks_setIx_iff, oks_nx, oks_brk, oks_cnt, nxt_nx, nxt_rt, tgt1, tgt2, tgt3, List.getElem?_cons_zero, List.getElem?_cons_succ, Option.bind_some, id, Option.some.injEq, exists_eq_left', List.set_cons_succ, List.set_cons_zero, D.bl.injEq, D.int.injEq, SR.nx.injEq, SR.rt.injEq, true_and, and_true, if_true, if_false, Bool.not_true, Bool.not_false, Bool.false_eq_true, Bool.true_eq_false, decide_eq_true_eq, Bool.not_eq_true', decide_eq_false_iff_not, nxt_ex, eq_self, not_true_eq_false, not_false_eq_true]
      refine ⟨_, ag0 hσ3, _, ixN_ok (by rw [iD_len]; exact hk), guard_nil _, hm, hl2, _, _, σ3, ys.set k (max 0 (ys[k] + s)), rfl, by rw [as0 hσ3, iD_set], by rw [List.length_set]; exact hy, ?_, ?_⟩
      · intro y hy
        rcases List.mem_or_eq_of_mem_set hy with h | rfl
        · exact hy0 y h
        · omega
      · exact drw.trans c31 dr5
    · rintro sl μk ⟨_, hm, hl2, x3, x4, σ, ys, rfl, rfl, hy, hy0, drw⟩
      have hσ : σ.length = μ.length := drw.len
      try simp only [rn_op2, rn_cb, rn_nil, rn_cons, rn_un, rn_i2, rn_addI, rn_mul, rn_ci, rn_k, rn_var, rn_bm, rn_sl, rn_pNo, rn_pSome, rn_tBl, rn_tNt, rn_tAn, rn_tOo, rn_tTru, rn_and, rn_or, rn_not, rn_if, rn_chain, rn_rep, rn_kw, rn_mut, rn_lst, rn_ls, rn_tup, rn_app, rn_setM, rn_ixM, rn_ixL, rn_ixT, rn_lenL, rn_lenT, rn_lenM, rn_min2, rn_max2, rn_divmod, rn_eqI, rn_neI, rn_isN, rn_notN, rn_isB, rn_notB, rn_intI, rn_intB, rn_tupL, rn_tupT, rn_tupM, rn_iseq, rn_ien, rn_tYes, dTr_bl, dTr_int, dTr_non, dTr_lst, rn_dk, rn_fld, rn_setFld, rn_meth, ck_I, oks_setFld_iff, oks_augFld_iff, oks_par_two, rn_lenS, rn_countS, ck_L, ck_S, exists_eq, exists_eq', MO.lst.injEq, oks_seq_iff, oks_set_iff, oks_drop_iff, oks_ret_iff, oks_retN_iff, oks_aug_iff, oks_asg_iff, oks_setIx_iff, oks_nx, oks_brk, oks_cnt, nxt_nx, nxt_rt, tgt1, tgt2, tgt3, List.getElem?_cons_zero, List.getElem?_cons_succ, Option.bind_some, id, Option.some.injEq, exists_eq_left', List.set_cons_succ, List.set_cons_zero, D.bl.injEq, D.int.injEq, SR.nx.injEq, SR.rt.injEq, true_and, and_true, if_true, if_false, Bool.not_true, Bool.not_false, Bool.false_eq_true, Bool.true_eq_false, decide_eq_true_eq, Bool.not_eq_true', decide_eq_false_iff_not, nxt_ex, eq_self, not_true_eq_false, not_false_eq_true, ag0 hσ]
      exact ⟨belL_ints _ _, muLow_app drw.low hσ, by rw [at0 hσ]; exact drw.mono (by omega), ys, rfl, hy, hy0⟩
theorem cellat_ok {ns : List Int} : ∃ z, Gives d_L_cell_at [.lst (ns.map .int), .int 0] (.int z) := by
  cases ns with
  | nil =>
    refine ⟨0, gives_rt (fun _ => trivial) fun μ => ?_⟩
    unfold g_L_cell_at
    try simp only [rn_op2, rn_cb, rn_nil, rn_cons, rn_un, rn_i2, rn_addI, rn_mul, rn_ci, rn_k, rn_var, rn_bm, rn_sl, rn_pNo, rn_pSome, rn_tBl, rn_tNt, rn_tAn, rn_tOo, rn_tTru, rn_and, rn_or, rn_not, rn_if, rn_chain, rn_rep, rn_kw, rn_mut, rn_lst, rn_ls, rn_tup, rn_app, rn_setM, rn_ixM, rn_ixL, rn_ixT, rn_lenL, rn_lenT, rn_lenM, rn_min2, rn_max2, rn_divmod, rn_eqI, rn_neI, rn_isN, rn_notN, rn_isB, rn_notB, rn_intI, rn_intB, rn_tupL, rn_tupT, rn_tupM, rn_iseq, rn_ien, rn_tYes, dTr_bl, dTr_int, dTr_non, dTr_lst, rn_dk, rn_fld, rn_setFld, rn_meth, ck_I, oks_setFld_iff, oks_augFld_iff, oks_par_two, rn_lenS, rn_countS, ck_L, ck_S, exists_eq, exists_eq', MO.lst.injEq, oks_seq_iff, oks_set_iff, oks_drop_iff, oks_ret_iff, oks_retN_iff, oks_aug_iff, oks_asg_iff, oks_setIx_iff, oks_nx, oks_brk, oks_cnt, nxt_nx, nxt_rt, tgt1, tgt2, tgt3, List.getElem?_cons_zero, List.getElem?_cons_succ, Option.bind_some, id, Option.some.injEq, exists_eq_left', List.set_cons_succ, List.set_cons_zero, D.bl.injEq, D.int.injEq, SR.nx.injEq, SR.rt.injEq, true_and, and_true, if_true, if_false, Bool.not_true, Bool.not_false, Bool.false_eq_true, Bool.true_eq_false, decide_eq_true_eq, Bool.not_eq_true', decide_eq_false_iff_not, nxt_ex, eq_self, not_true_eq_false, not_false_eq_true, st0, List.map_cons, List.map_nil, List.length_cons, List.length_nil, List.replicate, List.cons_append, List.nil_append, Nat.reduceAdd, Nat.reduceSub, Nat.zero_add, Nat.sub_self]
    rw [if_neg (by simp)]
    trivial
  | cons z ns =>
    refine ⟨z, gives_rt (fun _ => trivial) fun μ => ?_⟩
    unfold g_L_cell_at
    try simp only [rn_op2, rn_cb, rn_nil, rn_cons, rn_un, rn_i2, rn_addI, rn_mul, rn_ci, rn_k, rn_var, rn_bm, rn_sl, rn_pNo, rn_pSome, rn_tBl, rn_tNt, rn_tAn, rn_tOo, rn_tTru, rn_and, rn_or, rn_not, rn_if, rn_chain, rn_rep, rn_kw, rn_mut, rn_lst, rn_ls, rn_tup, rn_app, rn_setM, rn_ixM, rn_ixL, rn_ixT, rn_lenL, rn_lenT, rn_lenM, rn_min2, rn_max2, rn_divmod, rn_eqI, rn_neI, rn_isN, rn_notN, rn_isB, rn_notB, rn_intI, rn_intB, rn_tupL, rn_tupT, rn_tupM, rn_iseq, rn_ien, rn_tYes, dTr_bl, dTr_int, dTr_non, dTr_lst, rn_dk, rn_fld, rn_setFld, rn_meth, ck_I, oks_setFld_iff, oks_augFld_iff, oks_par_two, rn_lenS, rn_countS, ck_L, ck_S, exists_eq, exists_eq', MO.lst.injEq, oks_seq_iff, oks_set_iff, oks_drop_iff, oks_ret_iff, oks_retN_iff, oks_aug_iff, oks_asg_iff, oks_setIx_iff, oks_nx, oks_brk, oks_cnt, nxt_nx, nxt_rt, tgt1, tgt2, tgt3, List.getElem?_cons_zero, List.getElem?_cons_succ, Option.bind_some, id, Option.some.injEq, exists_eq_left', List.set_cons_succ, List.set_cons_zero, D.bl.injEq, D.int.injEq, SR.nx.injEq, SR.rt.injEq, true_and, and_true, if_true, if_false, Bool.not_true, Bool.not_false, Bool.false_eq_true, Bool.true_eq_false, decide_eq_true_eq, Bool.not_eq_true', decide_eq_false_iff_not, nxt_ex, eq_self, not_true_eq_false, not_false_eq_true, st0, List.map_cons, List.map_nil, List.length_cons, List.length_nil, List.replicate, List.cons_append, List.nil_append, Nat.reduceAdd, Nat.reduceSub, Nat.zero_add, Nat.sub_self]
    rw [if_pos (by simp)]
    exact ⟨_, atI_ok (j := 0) rfl, rfl⟩
end TX

namespace TX
open PySem PySem.Spec L2 DL
/-- the cells of a script: the first, and what follows -/
theorem cells_ok {ns : List Int} (hns : ns.length ≤ 63) {n : Int} {sl : Sl} {μ : Mu} {Q : D → Mu → Prop} {E : Exn → Mu → Prop} (h0 : sl[0]?.bind id = some (.lst (ns.map .int)))
    (q : ∀ items : List D, (∀ d ∈ items, ∃ z, d = D.int z) → items.length ≤ 64 → Q (.lst items) μ) :
    Rn (eOp2 oAdd (eCB oLst (aCons (eCB (oCall 2 d_L_cell_at) (aCons (eVar 0) (aCons (eK (.int 0)) aNil))) aNil)) (eSl (eVar 0) (pSome (eK (.int 1))) (pSome (eK (.int n)))) sl) μ Q E := by
  obtain ⟨z, hz⟩ := cellat_ok (ns := ns)
  try simp only [rn_op2, rn_cb, rn_nil, rn_cons, rn_un, rn_i2, rn_addI, rn_mul, rn_ci, rn_k, rn_var, rn_bm, rn_sl, rn_pNo, rn_pSome, rn_tBl, rn_tNt, rn_tAn, rn_tOo, rn_tTru, rn_and, rn_or, rn_not, rn_if, rn_chain, rn_rep, rn_kw, rn_mut, rn_lst, rn_ls, rn_tup, rn_app, rn_setM, rn_ixM, rn_ixL, rn_ixT, rn_lenL, rn_lenT, rn_lenM, rn_min2, rn_max2, rn_divmod, rn_eqI, rn_neI, rn_isN, rn_notN, rn_isB, rn_notB, rn_intI, rn_intB, rn_tupL, rn_tupT, rn_tupM, rn_iseq, rn_ien, rn_tYes, dTr_bl, dTr_int, dTr_non, dTr_lst, rn_dk, rn_fld, rn_setFld, rn_meth, ck_I, oks_setFld_iff, oks_augFld_iff, oks_par_two, rn_lenS, rn_countS, ck_L, ck_S, exists_eq, exists_eq', MO.lst.injEq, oks_seq_iff, oks_set_iff, oks_drop_iff, oks_ret_iff, oks_retN_iff, oks_aug_iff, oks_asg_iff, oks_setIx_iff, oks_nx, oks_brk, oks_cnt, nxt_nx, nxt_rt, tgt1, tgt2, tgt3, List.getElem?_cons_zero, List.getElem?_cons_succ, Option.bind_some, id, Option.some.injEq, exists_eq_left', List.set_cons_succ, List.set_cons_zero, D.bl.injEq, D.int.injEq, SR.nx.injEq, SR.rt.injEq, true_and, and_true, if_true, if_false, Bool.not_true, Bool.not_false, Bool.false_eq_true, Bool.true_eq_false, decide_eq_true_eq, Bool.not_eq_true', decide_eq_false_iff_not, nxt_ex, eq_self, not_true_eq_false, not_false_eq_true, h0]
  rw [rnG2 hz]
  refine ⟨by show 1 ≤ sizeLine; decide, ?_⟩
  rw [rn_slL, rn_addLL]
  have hc : (cutD (ns.map D.int) (some 1) (some n)).length ≤ 63 := Nat.le_trans (cutD_len _ _ _) (by rw [List.length_map]; exact hns)
  refine ⟨Nat.le_trans (by rw [List.length_singleton]; exact Nat.add_le_add_left hc 1) (by decide), q _ ?_ (by rw [List.length_append, List.length_singleton]; omega)⟩
  intro d hd
  rcases List.mem_append.mp hd with hd | hd
  · exact ⟨z, by simpa using hd⟩
  · obtain ⟨x, _, rfl⟩ := List.mem_map.mp (cutD_mem hd)
    exact ⟨x, rfl⟩
theorem sub_pow {n : Nat} {b : Int} (h : b < 2147483647) : b < 2 ^ 31 := by omega
theorem at3_i {x0 x1 x2 : D} {i : Int} (h0 : 0 ≤ i) (h1 : i < 3) : ∃ d, atI [x0, x1, x2] i = some d ∧ (d = x0 ∨ d = x1 ∨ d = x2) := by
  have : i = 0 ∨ i = 1 ∨ i = 2 := by omega
  rcases this with rfl | rfl | rfl
  · exact ⟨x0, rfl, by simp⟩
  · exact ⟨x1, rfl, by simp⟩
  · exact ⟨x2, rfl, by simp⟩
/-- the source at h after at most k draws -/
def StS (μ : Mu) (h : Nat) (k : Nat) : Prop := ∃ b c, Src μ h b c ∧ 0 ≤ b ∧ b < 2 ^ 31 ∧ 0 ≤ c ∧ c ≤ k
theorem st_of {μ μ1 : Mu} {h : Nat} {b c : Int} {k j : Nat} (hs : Src μ h b c) (b0 : 0 ≤ b) (b1 : b < 2 ^ 31) (hc : c ≤ k) (d : Drawn μ μ1 h b c j) : StS μ1 h (k + j) := by
  obtain ⟨c', s, h0, h1⟩ := d.src hs.lt
  exact ⟨b, c', s, b0, b1, h0, by omega⟩
theorem StS.mono {μ : Mu} {h k j : Nat} (s : StS μ h k) (hk : k ≤ j) : StS μ h j := let ⟨b, c, s, b0, b1, h0, h1⟩ := s; ⟨b, c, s, b0, b1, h0, by omega⟩
section
variable {μ : Mu} {h k : Nat} {Q : D → Mu → Prop} {E : Exn → Mu → Prop}
theorem rnTake {n : Int} (s : StS μ h k) (hk : k < 2 ^ 39) (n0 : 0 < n) (n1 : n < 2 ^ 200) (q : ∀ r μ1, 0 ≤ r → r < n → StS μ1 h (k + 1) → Q (.int r) μ1) : Rn (oCall 2 d_L_take [.mref h, .int n]) μ Q E := by
  obtain ⟨b, c, s, b0, b1, h0, h1⟩ := s
  rw [rn_call]
  refine ⟨rfl, Ok.rn ((take_ok s b0 b1 h0 (by omega) n0 (smallS (by omega) n1)).imp ?_)⟩
  rintro d μ1 ⟨dr, r, rfl, r0, r1⟩
  exact q r μ1 r0 r1 (st_of s b0 b1 h1 dr)
theorem rnOrder {n : Nat} {N : Int} (hN : (n : Int) = N) (s : StS μ h k) (hk : k < 2 ^ 39) (n1 : n ≤ 1000) (q : ∀ r μ1, r.Perm (List.range n) → StS μ1 h (k + n) → Q (.tup (nD r)) μ1) : Rn (oCall 2 d_L_order [.mref h, .int N]) μ Q E := by
  obtain ⟨b, c, s, b0, b1, h0, h1⟩ := s
  rw [rn_call]
  refine ⟨rfl, Ok.rn ((order_ok hN s b0 b1 h0 (by omega) n1).imp ?_)⟩
  rintro d μ1 ⟨dr, r, rfl, hr⟩
  exact q r μ1 hr (st_of s b0 b1 h1 dr)
theorem rnShare {n : Nat} {N top : Int} (hN : (n : Int) = N) (s : StS μ h k) (hk : k < 2 ^ 39) (n1 : n ≤ 1000) (t0 : 0 < top) (t1 : top ≤ 10 ^ 9) (q : ∀ xs μ1, xs.length = n → (∀ x ∈ xs, 0 ≤ x ∧ x < top) → StS μ1 h (k + 2 * n) → Q (.tup (iD xs)) μ1) : Rn (oCall 3 d_L_share [.mref h, .int N, .int top]) μ Q E := by
  obtain ⟨b, c, s, b0, b1, h0, h1⟩ := s
  rw [rn_call]
  refine ⟨rfl, Ok.rn ((share_ok hN s b0 b1 h0 (by omega) n1 t0 t1).imp ?_)⟩
  rintro d μ1 ⟨dr, xs, rfl, hx, h2⟩
  exact q xs μ1 hx h2 (st_of s b0 b1 h1 dr)
theorem rnMoved {a : List Int} (s : StS μ h k) (hk : k < 2 ^ 39) (ha : a.length ≤ 60) (ha0 : ∀ x ∈ a, 0 ≤ x) (q : ∀ ys μ1, ys.length = a.length → (∀ y ∈ ys, 0 ≤ y) → StS μ1 h (k + 4) → Q (.tup (iD ys)) μ1) : Rn (oCall 2 d_L_moved [.mref h, .tup (iD a)]) μ Q E := by
  obtain ⟨b, c, s, b0, b1, h0, h1⟩ := s
  rw [rn_call]
  refine ⟨rfl, Ok.rn ((moved_ok s b0 b1 h0 (by omega) ha ha0).imp ?_)⟩
  rintro d μ1 ⟨dr, ys, rfl, hy, h2⟩
  exact q ys μ1 hy h2 (st_of s b0 b1 h1 dr)
end
theorem cmpW_ok (a b : List Int) (r : List Nat) : PyData.strOk (cmpW a b r) = true := by
  unfold cmpW
  split
  · decide +kernel
  · split
    · decide +kernel
    · split <;> decide +kernel
theorem cmpW_nice (a b : List Int) (r : List Nat) : (D.str (cmpW a b r)).nice 60 := by
  unfold D.nice
  exact cmpW_ok a b r
theorem den_law : ∀ ns : List Int, ns.length ≤ 63 → (∀ z ∈ ns, Builtin.Int.intBits z ≤ 1048576) → ∃ μ2, d_P_law [.lst (ns.map .int)] [] = some (.ok (.bl true), μ2) := by
  intro ns hns _
  refine law_true ?_
  unfold g_P_law
  rw [oks_seq_iff]
  refine oks_forR (fun items gs k sl μk => gs = [] ∧ (∀ d ∈ items, ∃ z, d = D.int z) ∧ ∃ x1 x2 x3 x4 x5 x6 x7 x8 x9 x10, sl = [some (.lst (ns.map .int)), x1, x2, x3, x4, x5, x6, x7, x8, x9, x10]) ?_
  rw [rn_iseq]
  refine cells_ok hns rfl fun items hit hlen => ?_
  refine ⟨_, rfl, guard_nil _, ⟨rfl, hit, none, none, none, none, none, none, none, none, none, none, rfl⟩, ?_, ?_⟩
  · rintro i d sl μ1 hd ⟨_, _, x1, x2, x3, x4, x5, x6, x7, x8, x9, x10, rfl⟩
    obtain ⟨z, rfl⟩ := hit d (List.mem_of_getElem? hd)
    refine ⟨_, rfl, ?_⟩
    try simp only [rn_op2, rn_cb, rn_nil, rn_cons, rn_un, rn_i2, rn_addI, rn_mul, rn_ci, rn_k, rn_var, rn_bm, rn_sl, rn_pNo, rn_pSome, rn_tBl, rn_tNt, rn_tAn, rn_tOo, rn_tTru, rn_and, rn_or, rn_not, rn_if, rn_chain, rn_rep, rn_kw, rn_mut, rn_lst, rn_ls, rn_tup, rn_app, rn_setM, rn_ixM, rn_ixL, rn_ixT, rn_lenL, rn_lenT, rn_lenM, rn_min2, rn_max2, rn_divmod, rn_eqI, rn_neI, rn_isN, rn_notN, rn_isB, rn_notB, rn_intI, rn_intB, rn_tupL, rn_tupT, rn_tupM, rn_iseq, rn_ien, rn_tYes, dTr_bl, dTr_int, dTr_non, dTr_lst, rn_dk, rn_fld, rn_setFld, rn_meth, ck_I, oks_setFld_iff, oks_augFld_iff, oks_par_two, rn_lenS, rn_countS, ck_L, ck_S, exists_eq, exists_eq', MO.lst.injEq, oks_seq_iff, oks_set_iff, oks_drop_iff, oks_ret_iff, oks_retN_iff, oks_aug_iff, oks_asg_iff, oks_setIx_iff, oks_nx, oks_brk, oks_cnt, nxt_nx, nxt_rt, tgt1, tgt2, tgt3, List.getElem?_cons_zero, List.getElem?_cons_succ, Option.bind_some, id, Option.some.injEq, exists_eq_left', List.set_cons_succ, List.set_cons_zero, D.bl.injEq, D.int.injEq, SR.nx.injEq, SR.rt.injEq, true_and, and_true, if_true, if_false, Bool.not_true, Bool.not_false, Bool.false_eq_true, Bool.true_eq_false, decide_eq_true_eq, Bool.not_eq_true', decide_eq_false_iff_not, nxt_ex, eq_self, not_true_eq_false, not_false_eq_true]
    rw [rn_call]
    refine ⟨rfl, Ok.rn (source_ok fun a => ?_)⟩
    generalize hb : z % 2147483647 = b
    have b0 : 0 ≤ b := by rw [← hb]; exact Int.emod_nonneg _ (by decide)
    have b1 : b < 2 ^ 31 := by have : b < 2147483647 := by rw [← hb]; exact Int.emod_lt_of_pos _ (by decide)
                               omega
    have s0 : StS (μ1 ++ [some (MO.lst [.int a, .int b, .int 0])]) μ1.length 0 := ⟨b, 0, src_new, b0, b1, Int.le_refl _, Int.le_refl _⟩
    generalize hμ : μ1 ++ [some (MO.lst [D.int a, .int b, .int 0])] = μ2 at s0
    generalize hh : μ1.length = h at s0
    refine rnTake s0 (by decide) (by decide) (by decide) fun q1 μ3 q10 q11 s1 => ?_
    refine rnTake s1 (by decide) (by decide) (by decide) fun q2 μ4 q20 q21 s2 => ?_
    refine rnTake s2 (by decide) (by decide) (by decide) fun q3 μ5 q30 q31 s3 => ?_
    refine ⟨by show 4 ≤ sizeLine; decide, rnTake s3 (by decide) (by decide) (by decide) fun q4 μ6 q40 q41 s4 => ?_⟩
    obtain ⟨dn, edn, hdn⟩ := at4_i (x0 := .int q1) (x1 := .int q2) (x2 := .int q3) (x3 := .int 60) q40 q41
    obtain ⟨n, rfl, hn⟩ : ∃ n : Nat, dn = .int n ∧ n ≤ 60 := by
      rcases hdn with rfl | rfl | rfl | rfl
      · exact ⟨q1.toNat, by rw [Int.toNat_of_nonneg q10], by omega⟩
      · exact ⟨q2.toNat, by rw [Int.toNat_of_nonneg q20], by omega⟩
      · exact ⟨q3.toNat, by rw [Int.toNat_of_nonneg q30], by omega⟩
      · exact ⟨60, rfl, by decide⟩
    rw [rn_ixL]
    refine ⟨_, edn, ?_⟩
    generalize hN : (n : Int) = N
    refine rnOrder hN s4 (by decide) (by omega) fun r μ7 hr s5 => ?_
    refine ⟨⟨by decide, by decide, by decide⟩, by show 3 ≤ sizeLine; decide, rnTake s5 (by omega) (by decide) (by decide) fun q5 μ8 q50 q51 s6 => ?_⟩
    obtain ⟨dt, edt, hdt⟩ := at3_i (x0 := .int 2) (x1 := .int 4) (x2 := .int (10 ^ Int.toNat 9)) q50 q51
    obtain ⟨top, rfl, t0, t1⟩ : ∃ t : Int, dt = .int t ∧ 0 < t ∧ t ≤ 10 ^ 9 := by
      rcases hdt with rfl | rfl | rfl
      · exact ⟨_, rfl, by decide, by decide⟩
      · exact ⟨_, rfl, by decide, by decide⟩
      · exact ⟨_, rfl, by decide, by decide⟩
    rw [rn_ixL]
    refine ⟨_, edt, ?_⟩
    refine rnShare hN s6 (by omega) (by omega) t0 t1 fun mine μ9 hml hmt s7 => ?_
    rw [oks_if_iff]
    try simp only [rn_op2, rn_cb, rn_nil, rn_cons, rn_un, rn_i2, rn_addI, rn_mul, rn_ci, rn_k, rn_var, rn_bm, rn_sl, rn_pNo, rn_pSome, rn_tBl, rn_tNt, rn_tAn, rn_tOo, rn_tTru, rn_and, rn_or, rn_not, rn_if, rn_chain, rn_rep, rn_kw, rn_mut, rn_lst, rn_ls, rn_tup, rn_app, rn_setM, rn_ixM, rn_ixL, rn_ixT, rn_lenL, rn_lenT, rn_lenM, rn_min2, rn_max2, rn_divmod, rn_eqI, rn_neI, rn_isN, rn_notN, rn_isB, rn_notB, rn_intI, rn_intB, rn_tupL, rn_tupT, rn_tupM, rn_iseq, rn_ien, rn_tYes, dTr_bl, dTr_int, dTr_non, dTr_lst, rn_dk, rn_fld, rn_setFld, rn_meth, ck_I, oks_setFld_iff, oks_augFld_iff, oks_par_two, rn_lenS, rn_countS, ck_L, ck_S, exists_eq, exists_eq', MO.lst.injEq, oks_seq_iff, oks_set_iff, oks_drop_iff, oks_ret_iff, oks_retN_iff, oks_aug_iff, oks_asg_iff, oks_setIx_iff, oks_nx, oks_brk, oks_cnt, nxt_nx, nxt_rt, tgt1, tgt2, tgt3, List.getElem?_cons_zero, List.getElem?_cons_succ, Option.bind_some, id, Option.some.injEq, exists_eq_left', List.set_cons_succ, List.set_cons_zero, D.bl.injEq, D.int.injEq, SR.nx.injEq, SR.rt.injEq, true_and, and_true, if_true, if_false, Bool.not_true, Bool.not_false, Bool.false_eq_true, Bool.true_eq_false, decide_eq_true_eq, Bool.not_eq_true', decide_eq_false_iff_not, nxt_ex, eq_self, not_true_eq_false, not_false_eq_true]
    refine rnTake s7 (by omega) (by decide) (by decide) fun q6 μ10 q60 q61 s8 => ?_
    try simp only [rn_op2, rn_cb, rn_nil, rn_cons, rn_un, rn_i2, rn_addI, rn_mul, rn_ci, rn_k, rn_var, rn_bm, rn_sl, rn_pNo, rn_pSome, rn_tBl, rn_tNt, rn_tAn, rn_tOo, rn_tTru, rn_and, rn_or, rn_not, rn_if, rn_chain, rn_rep, rn_kw, rn_mut, rn_lst, rn_ls, rn_tup, rn_app, rn_setM, rn_ixM, rn_ixL, rn_ixT, rn_lenL, rn_lenT, rn_lenM, rn_min2, rn_max2, rn_divmod, rn_eqI, rn_neI, rn_isN, rn_notN, rn_isB, rn_notB, rn_intI, rn_intB, rn_tupL, rn_tupT, rn_tupM, rn_iseq, rn_ien, rn_tYes, dTr_bl, dTr_int, dTr_non, dTr_lst, rn_dk, rn_fld, rn_setFld, rn_meth, ck_I, oks_setFld_iff, oks_augFld_iff, oks_par_two, rn_lenS, rn_countS, ck_L, ck_S, exists_eq, exists_eq', MO.lst.injEq, oks_seq_iff, oks_set_iff, oks_drop_iff, oks_ret_iff, oks_retN_iff, oks_aug_iff, oks_asg_iff, oks_setIx_iff, oks_nx, oks_brk, oks_cnt, nxt_nx, nxt_rt, tgt1, tgt2, tgt3, List.getElem?_cons_zero, List.getElem?_cons_succ, Option.bind_some, id, Option.some.injEq, exists_eq_left', List.set_cons_succ, List.set_cons_zero, D.bl.injEq, D.int.injEq, SR.nx.injEq, SR.rt.injEq, true_and, and_true, if_true, if_false, Bool.not_true, Bool.not_false, Bool.false_eq_true, Bool.true_eq_false, decide_eq_true_eq, Bool.not_eq_true', decide_eq_false_iff_not, nxt_ex, eq_self, not_true_eq_false, not_false_eq_true]
    have rest : ∀ (mine : List Int) (μk : Mu), mine.length = n → (∀ x ∈ mine, 0 ≤ x) → StS μk h (400 + n) → OkS
              (sFor (iRange1 (aCons (eK (D.int 4)) aNil)) (dgName 6)
                (sSeq
                  (sSet 7
                    (eOp2 oIx
                      (eCB oLst
                        (aCons (eCB (oCall 3 d_L_share) (aCons (eVar 2) (aCons (eVar 3) (aCons (eK (D.int 4)) aNil))))
                          (aCons (eVar 5)
                            (aCons (eCB (oCall 2 d_L_moved) (aCons (eVar 2) (aCons (eVar 5) aNil)))
                              (aCons (eCB (oCall 2 d_L_moved) (aCons (eVar 2) (aCons (eVar 5) aNil))) aNil)))))
                      (eVar 6)))
                  (sSeq (sSet 8 (eCB (oCall 3 d_L_word) (aCons (eVar 4) (aCons (eVar 5) (aCons (eVar 7) aNil)))))
                    (sSeq
                      (sSet 9
                        (eOp2 oDget
                          (eCB
                            (oDic
                              [Sum.inr (Str.ofString "equal"), Sum.inr (Str.ofString "better"),
                                Sum.inr (Str.ofString "worse"), Sum.inr (Str.ofString "unclear")])
                            (aCons (eK (D.str (Str.ofString "equal")))
                              (aCons (eK (D.str (Str.ofString "worse")))
                                (aCons (eK (D.str (Str.ofString "better")))
                                  (aCons (eK (D.str (Str.ofString "unclear"))) aNil)))))
                          (eVar 8)))
                      (sIf
                        (tOo
                          (tBl
                            (eOp2 oNe
                              (eCB (oCall 3 d_P_compare) (aCons (eVar 4) (aCons (eVar 5) (aCons (eVar 7) aNil))))
                              (eVar 8)))
                          (tBl
                            (eOp2 oNe
                              (eKw 3 d_P_compare [2, 1, 0] (aCons (eVar 5) (aCons (eVar 7) (aCons (eVar 4) aNil))))
                              (eVar 9))))
                        (sRet (eK (D.bl false))) sNx))))
                [some (D.lst (List.map D.int ns)), some (D.int z), some (D.mref h), some (D.int N), some (D.tup (nD r)),
                  some (D.tup (iD mine)), x6, x7, x8, x9, x10]) μk (turnQ [] (fun sl μk => (∀ d ∈ items, ∃ z, d = D.int z) ∧ ∃ x1 x2 x3 x4 x5 x6 x7 x8 x9 x10, sl = [some (.lst (ns.map .int)), x1, x2, x3, x4, x5, x6, x7, x8, x9, x10]) (nxt (sRet (eK (.bl true))) fun r μ1 => r = .rt (.bl true))) := by
      intro mine μk hml hm0 s
      refine oks_forR (fun items' gs k sl μk => gs = [] ∧ items' = upto 0 4 ∧ (∃ y6 y7 y8 y9 y10, sl = [some (D.lst (List.map D.int ns)), some (D.int z), some (D.mref h), some (D.int N), some (D.tup (nD r)), some (D.tup (iD mine)), y6, y7, y8, y9, y10]) ∧ StS μk h (400 + n + 128 * k)) ?_
      rw [rn_rgK (by decide) (by decide)]
      refine ⟨guard_nil _, ⟨rfl, rfl, ⟨_, _, _, _, _, rfl⟩, s⟩, ?_, ?_⟩
      · rintro i d sl μk hd ⟨_, _, ⟨y6, y7, y8, y9, y10, rfl⟩, s⟩
        obtain ⟨hi, rfl⟩ := upto_getI hd
        refine ⟨_, rfl, ?_⟩
        try simp only [rn_op2, rn_cb, rn_nil, rn_cons, rn_un, rn_i2, rn_addI, rn_mul, rn_ci, rn_k, rn_var, rn_bm, rn_sl, rn_pNo, rn_pSome, rn_tBl, rn_tNt, rn_tAn, rn_tOo, rn_tTru, rn_and, rn_or, rn_not, rn_if, rn_chain, rn_rep, rn_kw, rn_mut, rn_lst, rn_ls, rn_tup, rn_app, rn_setM, rn_ixM, rn_ixL, rn_ixT, rn_lenL, rn_lenT, rn_lenM, rn_min2, rn_max2, rn_divmod, rn_eqI, rn_neI, rn_isN, rn_notN, rn_isB, rn_notB, rn_intI, rn_intB, rn_tupL, rn_tupT, rn_tupM, rn_iseq, rn_ien, rn_tYes, dTr_bl, dTr_int, dTr_non, dTr_lst, rn_dk, rn_fld, rn_setFld, rn_meth, ck_I, oks_setFld_iff, oks_augFld_iff, oks_par_two, rn_lenS, rn_countS, ck_L, ck_S, exists_eq, exists_eq', MO.lst.injEq, oks_seq_iff, oks_set_iff, oks_drop_iff, oks_ret_iff, oks_retN_iff, oks_aug_iff, oks_asg_iff, oks_setIx_iff, oks_nx, oks_brk, oks_cnt, nxt_nx, nxt_rt, tgt1, tgt2, tgt3, List.getElem?_cons_zero, List.getElem?_cons_succ, Option.bind_some, id, Option.some.injEq, exists_eq_left', List.set_cons_succ, List.set_cons_zero, D.bl.injEq, D.int.injEq, SR.nx.injEq, SR.rt.injEq, true_and, and_true, if_true, if_false, Bool.not_true, Bool.not_false, Bool.false_eq_true, Bool.true_eq_false, decide_eq_true_eq, Bool.not_eq_true', decide_eq_false_iff_not, nxt_ex, eq_self, not_true_eq_false, not_false_eq_true]
        refine rnShare hN s (by omega) (by omega) (by decide) (by decide) fun a1 μ11 l1 p1 s1 => ?_
        refine rnMoved s1 (by omega) (by omega) hm0 fun a2 μ12 l2 p2 s2 => ?_
        refine rnMoved s2 (by omega) (by omega) hm0 fun a3 μ13 l3 p3 s3 => ?_
        refine ⟨by show 4 ≤ sizeLine; decide, ?_⟩
        obtain ⟨dv, edv, hdv⟩ := at4_i (x0 := .tup (iD a1)) (x1 := .tup (iD mine)) (x2 := .tup (iD a2)) (x3 := .tup (iD a3)) (i := (i : Int)) (by omega) (by omega)
        obtain ⟨ot, rfl, ol, o0⟩ : ∃ o : List Int, dv = .tup (iD o) ∧ o.length = n ∧ ∀ x ∈ o, 0 ≤ x := by
          rcases hdv with rfl | rfl | rfl | rfl
          · exact ⟨a1, rfl, l1, fun x hx => (p1 x hx).1⟩
          · exact ⟨mine, rfl, hml, hm0⟩
          · exact ⟨a2, rfl, l2.trans hml, p2⟩
          · exact ⟨a3, rfl, l3.trans hml, p3⟩
        refine ⟨_, edv, ?_⟩
        rw [rnG3 (word_ok hml ol hr hn)]
        try simp only [rn_op2, rn_cb, rn_nil, rn_cons, rn_un, rn_i2, rn_addI, rn_mul, rn_ci, rn_k, rn_var, rn_bm, rn_sl, rn_pNo, rn_pSome, rn_tBl, rn_tNt, rn_tAn, rn_tOo, rn_tTru, rn_and, rn_or, rn_not, rn_if, rn_chain, rn_rep, rn_kw, rn_mut, rn_lst, rn_ls, rn_tup, rn_app, rn_setM, rn_ixM, rn_ixL, rn_ixT, rn_lenL, rn_lenT, rn_lenM, rn_min2, rn_max2, rn_divmod, rn_eqI, rn_neI, rn_isN, rn_notN, rn_isB, rn_notB, rn_intI, rn_intB, rn_tupL, rn_tupT, rn_tupM, rn_iseq, rn_ien, rn_tYes, dTr_bl, dTr_int, dTr_non, dTr_lst, rn_dk, rn_fld, rn_setFld, rn_meth, ck_I, oks_setFld_iff, oks_augFld_iff, oks_par_two, rn_lenS, rn_countS, ck_L, ck_S, exists_eq, exists_eq', MO.lst.injEq, oks_seq_iff, oks_set_iff, oks_drop_iff, oks_ret_iff, oks_retN_iff, oks_aug_iff, oks_asg_iff, oks_setIx_iff, oks_nx, oks_brk, oks_cnt, nxt_nx, nxt_rt, tgt1, tgt2, tgt3, List.getElem?_cons_zero, List.getElem?_cons_succ, Option.bind_some, id, Option.some.injEq, exists_eq_left', List.set_cons_succ, List.set_cons_zero, D.bl.injEq, D.int.injEq, SR.nx.injEq, SR.rt.injEq, true_and, and_true, if_true, if_false, Bool.not_true, Bool.not_false, Bool.false_eq_true, Bool.true_eq_false, decide_eq_true_eq, Bool.not_eq_true', decide_eq_false_iff_not, nxt_ex, eq_self, not_true_eq_false, not_false_eq_true, rn_dic, rn_dgetD]
        refine ⟨_, rfl, _, cmp_back hml ol hr, ?_⟩
        rw [oks_if_iff]
        try simp only [rn_op2, rn_cb, rn_nil, rn_cons, rn_un, rn_i2, rn_addI, rn_mul, rn_ci, rn_k, rn_var, rn_bm, rn_sl, rn_pNo, rn_pSome, rn_tBl, rn_tNt, rn_tAn, rn_tOo, rn_tTru, rn_and, rn_or, rn_not, rn_if, rn_chain, rn_rep, rn_kw, rn_mut, rn_lst, rn_ls, rn_tup, rn_app, rn_setM, rn_ixM, rn_ixL, rn_ixT, rn_lenL, rn_lenT, rn_lenM, rn_min2, rn_max2, rn_divmod, rn_eqI, rn_neI, rn_isN, rn_notN, rn_isB, rn_notB, rn_intI, rn_intB, rn_tupL, rn_tupT, rn_tupM, rn_iseq, rn_ien, rn_tYes, dTr_bl, dTr_int, dTr_non, dTr_lst, rn_dk, rn_fld, rn_setFld, rn_meth, ck_I, oks_setFld_iff, oks_augFld_iff, oks_par_two, rn_lenS, rn_countS, ck_L, ck_S, exists_eq, exists_eq', MO.lst.injEq, oks_seq_iff, oks_set_iff, oks_drop_iff, oks_ret_iff, oks_retN_iff, oks_aug_iff, oks_asg_iff, oks_setIx_iff, oks_nx, oks_brk, oks_cnt, nxt_nx, nxt_rt, tgt1, tgt2, tgt3, List.getElem?_cons_zero, List.getElem?_cons_succ, Option.bind_some, id, Option.some.injEq, exists_eq_left', List.set_cons_succ, List.set_cons_zero, D.bl.injEq, D.int.injEq, SR.nx.injEq, SR.rt.injEq, true_and, and_true, if_true, if_false, Bool.not_true, Bool.not_false, Bool.false_eq_true, Bool.true_eq_false, decide_eq_true_eq, Bool.not_eq_true', decide_eq_false_iff_not, nxt_ex, eq_self, not_true_eq_false, not_false_eq_true]
        rw [rnG3 (compare_ok hml ol hm0 o0 hr hn), rn_neD (cmpW_nice _ _ _) (cmpW_nice _ _ _)]
        refine ⟨_, rfl, ?_⟩
        rw [if_neg (by simp)]
        have eo : ord [2, 1, 0] [D.tup (iD mine), D.tup (iD ot), D.tup (nD r)] = [D.tup (nD r), D.tup (iD ot), D.tup (iD mine)] := rfl
        rw [eo, rnG3 (compare_ok ol hml o0 hm0 hr hn), rn_neD (cmpW_nice _ _ _) (cmpW_nice _ _ _)]
        refine ⟨_, rfl, ?_⟩
        rw [if_neg (by simp)]
        exact ⟨guard_nil _, rfl, ⟨_, _, _, _, _, rfl⟩, s3.mono (by omega)⟩
      · rintro sl μk ⟨_, _, ⟨y6, y7, y8, y9, y10, rfl⟩, s⟩
        exact ⟨guard_nil _, hit, _, _, _, _, _, _, _, _, _, _, rfl⟩
    by_cases h6 : (q6 == 0) = true
    · rw [if_pos h6]
      refine rn_lc (fun items' gs k acc μk => gs = [] ∧ items' = iD mine ∧ ∃ xs : List Int, acc = iD xs ∧ xs.length = k ∧ (∀ x ∈ xs, 0 ≤ x) ∧ StS μk h (200 + n + k)) ?_
      rw [rn_iseqV rfl rfl]
      refine ⟨guard_nil _, ⟨rfl, rfl, [], rfl, rfl, by simp, s8.mono (by omega)⟩, ?_, ?_⟩
      · rintro i d acc μk hd ⟨_, _, xs, rfl, rfl, hx, s⟩
        have hd : (iD mine)[xs.length]? = some d := hd
        obtain ⟨v, hv, rfl⟩ : ∃ v : Int, mine[xs.length]? = some v ∧ d = .int v := by
          rw [List.getElem?_map] at hd
          cases e : mine[xs.length]? with
          | none => rw [e] at hd; cases hd
          | some v => rw [e] at hd; cases hd; exact ⟨v, rfl, rfl⟩
        have hi := (List.getElem?_eq_some_iff.mp hv).1
        have hv0 := hmt v (List.mem_of_getElem? hv)
        refine ok_turnR rfl ?_
        rw [rn_tYes, if_pos rfl]
        try simp only [rn_op2, rn_cb, rn_nil, rn_cons, rn_un, rn_i2, rn_addI, rn_mul, rn_ci, rn_k, rn_var, rn_bm, rn_sl, rn_pNo, rn_pSome, rn_tBl, rn_tNt, rn_tAn, rn_tOo, rn_tTru, rn_and, rn_or, rn_not, rn_if, rn_chain, rn_rep, rn_kw, rn_mut, rn_lst, rn_ls, rn_tup, rn_app, rn_setM, rn_ixM, rn_ixL, rn_ixT, rn_lenL, rn_lenT, rn_lenM, rn_min2, rn_max2, rn_divmod, rn_eqI, rn_neI, rn_isN, rn_notN, rn_isB, rn_notB, rn_intI, rn_intB, rn_tupL, rn_tupT, rn_tupM, rn_iseq, rn_ien, rn_tYes, dTr_bl, dTr_int, dTr_non, dTr_lst, rn_dk, rn_fld, rn_setFld, rn_meth, ck_I, oks_setFld_iff, oks_augFld_iff, oks_par_two, rn_lenS, rn_countS, ck_L, ck_S, exists_eq, exists_eq', MO.lst.injEq, oks_seq_iff, oks_set_iff, oks_drop_iff, oks_ret_iff, oks_retN_iff, oks_aug_iff, oks_asg_iff, oks_setIx_iff, oks_nx, oks_brk, oks_cnt, nxt_nx, nxt_rt, tgt1, tgt2, tgt3, List.getElem?_cons_zero, List.getElem?_cons_succ, Option.bind_some, id, Option.some.injEq, exists_eq_left', List.set_cons_succ, List.set_cons_zero, D.bl.injEq, D.int.injEq, SR.nx.injEq, SR.rt.injEq, true_and, and_true, if_true, if_false, Bool.not_true, Bool.not_false, Bool.false_eq_true, Bool.true_eq_false, decide_eq_true_eq, Bool.not_eq_true', decide_eq_false_iff_not, nxt_ex, eq_self, not_true_eq_false, not_false_eq_true, st0, List.map_cons, List.map_nil, List.length_cons, List.length_nil, List.replicate, List.cons_append, List.nil_append, Nat.reduceAdd, Nat.reduceSub, Nat.zero_add, Nat.sub_self, wipeD, List.foldr]
        refine ⟨⟨by decide, by decide, by decide⟩, logs (by omega) (by decide), ⟨by decide, by decide, by decide⟩, ?_⟩
        refine rnTake s (by omega) (by decide) (by decide) fun q7 μ11 q70 q71 s9 => ?_
        try simp only [rn_op2, rn_cb, rn_nil, rn_cons, rn_un, rn_i2, rn_addI, rn_mul, rn_ci, rn_k, rn_var, rn_bm, rn_sl, rn_pNo, rn_pSome, rn_tBl, rn_tNt, rn_tAn, rn_tOo, rn_tTru, rn_and, rn_or, rn_not, rn_if, rn_chain, rn_rep, rn_kw, rn_mut, rn_lst, rn_ls, rn_tup, rn_app, rn_setM, rn_ixM, rn_ixL, rn_ixT, rn_lenL, rn_lenT, rn_lenM, rn_min2, rn_max2, rn_divmod, rn_eqI, rn_neI, rn_isN, rn_notN, rn_isB, rn_notB, rn_intI, rn_intB, rn_tupL, rn_tupT, rn_tupM, rn_iseq, rn_ien, rn_tYes, dTr_bl, dTr_int, dTr_non, dTr_lst, rn_dk, rn_fld, rn_setFld, rn_meth, ck_I, oks_setFld_iff, oks_augFld_iff, oks_par_two, rn_lenS, rn_countS, ck_L, ck_S, exists_eq, exists_eq', MO.lst.injEq, oks_seq_iff, oks_set_iff, oks_drop_iff, oks_ret_iff, oks_retN_iff, oks_aug_iff, oks_asg_iff, oks_setIx_iff, oks_nx, oks_brk, oks_cnt, nxt_nx, nxt_rt, tgt1, tgt2, tgt3, List.getElem?_cons_zero, List.getElem?_cons_succ, Option.bind_some, id, Option.some.injEq, exists_eq_left', List.set_cons_succ, List.set_cons_zero, D.bl.injEq, D.int.injEq, SR.nx.injEq, SR.rt.injEq, true_and, and_true, if_true, if_false, Bool.not_true, Bool.not_false, Bool.false_eq_true, Bool.true_eq_false, decide_eq_true_eq, Bool.not_eq_true', decide_eq_false_iff_not, nxt_ex, eq_self, not_true_eq_false, not_false_eq_true]
        refine ⟨⟨guard_nil _, Nat.lt_of_lt_of_le (by rw [iD_len]; omega) (by decide : 1000 ≤ sizeLine)⟩, xs ++ [v * 10 ^ Int.toNat 27 + q7], by simp, by simp, ?_, s9.mono (by omega)⟩
        intro x hx2
        rcases List.mem_append.mp hx2 with hx2 | hx2
        · exact hx x hx2
        · rw [List.mem_singleton] at hx2
          have e27 : (10 : Int) ^ Int.toNat 27 = 10 ^ 27 := rfl
          rw [e27] at hx2
          omega
      · rintro acc μk ⟨_, _, xs, rfl, hk, hx, s⟩
        have e : ((iD mine, ([] : List (Nat × List D))).1).length = n := (iD_len mine).trans hml
        rw [e] at hk s
        try simp only [rn_op2, rn_cb, rn_nil, rn_cons, rn_un, rn_i2, rn_addI, rn_mul, rn_ci, rn_k, rn_var, rn_bm, rn_sl, rn_pNo, rn_pSome, rn_tBl, rn_tNt, rn_tAn, rn_tOo, rn_tTru, rn_and, rn_or, rn_not, rn_if, rn_chain, rn_rep, rn_kw, rn_mut, rn_lst, rn_ls, rn_tup, rn_app, rn_setM, rn_ixM, rn_ixL, rn_ixT, rn_lenL, rn_lenT, rn_lenM, rn_min2, rn_max2, rn_divmod, rn_eqI, rn_neI, rn_isN, rn_notN, rn_isB, rn_notB, rn_intI, rn_intB, rn_tupL, rn_tupT, rn_tupM, rn_iseq, rn_ien, rn_tYes, dTr_bl, dTr_int, dTr_non, dTr_lst, rn_dk, rn_fld, rn_setFld, rn_meth, ck_I, oks_setFld_iff, oks_augFld_iff, oks_par_two, rn_lenS, rn_countS, ck_L, ck_S, exists_eq, exists_eq', MO.lst.injEq, oks_seq_iff, oks_set_iff, oks_drop_iff, oks_ret_iff, oks_retN_iff, oks_aug_iff, oks_asg_iff, oks_setIx_iff, oks_nx, oks_brk, oks_cnt, nxt_nx, nxt_rt, tgt1, tgt2, tgt3, List.getElem?_cons_zero, List.getElem?_cons_succ, Option.bind_some, id, Option.some.injEq, exists_eq_left', List.set_cons_succ, List.set_cons_zero, D.bl.injEq, D.int.injEq, SR.nx.injEq, SR.rt.injEq, true_and, and_true, if_true, if_false, Bool.not_true, Bool.not_false, Bool.false_eq_true, Bool.true_eq_false, decide_eq_true_eq, Bool.not_eq_true', decide_eq_false_iff_not, nxt_ex, eq_self, not_true_eq_false, not_false_eq_true]
        exact rest xs μk hk hx (s.mono (by omega))
    · rw [if_neg h6]
      exact rest mine μ10 hml (fun x hx => (hmt x hx).1) (s8.mono (by omega))
  · rintro sl μ1 ⟨_, _, x1, x2, x3, x4, x5, x6, x7, x8, x9, x10, rfl⟩
    try simp only [rn_op2, rn_cb, rn_nil, rn_cons, rn_un, rn_i2, rn_addI, rn_mul, rn_ci, rn_k, rn_var, rn_bm, rn_sl, rn_pNo, rn_pSome, rn_tBl, rn_tNt, rn_tAn, rn_tOo, rn_tTru, rn_and, rn_or, rn_not, rn_if, rn_chain, rn_rep, rn_kw, rn_mut, rn_lst, rn_ls, rn_tup, rn_app, rn_setM, rn_ixM, rn_ixL, rn_ixT, rn_lenL, rn_lenT, rn_lenM, rn_min2, rn_max2, rn_divmod, rn_eqI, rn_neI, rn_isN, rn_notN, rn_isB, rn_notB, rn_intI, rn_intB, rn_tupL, rn_tupT, rn_tupM, rn_iseq, rn_ien, rn_tYes, dTr_bl, dTr_int, dTr_non, dTr_lst, rn_dk, rn_fld, rn_setFld, rn_meth, ck_I, oks_setFld_iff, oks_augFld_iff, oks_par_two, rn_lenS, rn_countS, ck_L, ck_S, exists_eq, exists_eq', MO.lst.injEq, oks_seq_iff, oks_set_iff, oks_drop_iff, oks_ret_iff, oks_retN_iff, oks_aug_iff, oks_asg_iff, oks_setIx_iff, oks_nx, oks_brk, oks_cnt, nxt_nx, nxt_rt, tgt1, tgt2, tgt3, List.getElem?_cons_zero, List.getElem?_cons_succ, Option.bind_some, id, Option.some.injEq, exists_eq_left', List.set_cons_succ, List.set_cons_zero, D.bl.injEq, D.int.injEq, SR.nx.injEq, SR.rt.injEq, true_and, and_true, if_true, if_false, Bool.not_true, Bool.not_false, Bool.false_eq_true, Bool.true_eq_false, decide_eq_true_eq, Bool.not_eq_true', decide_eq_false_iff_not, nxt_ex, eq_self, not_true_eq_false, not_false_eq_true]
end TX

namespace TX
open PySem PySem.Spec PyProof.Rows L2 GxR DL
section
variable {P : Program} {w : World} {K : PySem.W.Frag} {mg : Str → Option Value} {base : Heap} {tb : Addr → Prop} {A : Ad}
theorem all_mk {l : PySem.W.OpenLaw} {w : World} {K : PySem.W.Frag} {h : Heap} {mg : Str → Option Value} {fa : Addr} {q : Program} {f_P_is_integer : Addr} {oc_P_is_integer kV_P_is_integer dc_P_is_integer pm_P_is_integer ct_P_is_integer : Value} {od_P_is_integer an_P_is_integer : Option Addr} {sl_P_is_integer : Array (Option Value)} {cd_P_is_integer : Value} {f_P_are_kinds : Addr} {oc_P_are_kinds kV_P_are_kinds dc_P_are_kinds pm_P_are_kinds ct_P_are_kinds : Value} {od_P_are_kinds an_P_are_kinds : Option Addr} {sl_P_are_kinds : Array (Option Value)} {cd_P_are_kinds : Value} {f_P_kinds_in : Addr} {oc_P_kinds_in kV_P_kinds_in dc_P_kinds_in pm_P_kinds_in ct_P_kinds_in : Value} {od_P_kinds_in an_P_kinds_in : Option Addr} {sl_P_kinds_in : Array (Option Value)} {cd_P_kinds_in : Value} {f_P_prefix_items : Addr} {oc_P_prefix_items kV_P_prefix_items dc_P_prefix_items pm_P_prefix_items ct_P_prefix_items : Value} {od_P_prefix_items an_P_prefix_items : Option Addr} {sl_P_prefix_items : Array (Option Value)} {cd_P_prefix_items : Value} {f_L_cell_at : Addr} {oc_L_cell_at kV_L_cell_at dc_L_cell_at pm_L_cell_at ct_L_cell_at : Value} {od_L_cell_at an_L_cell_at : Option Addr} {sl_L_cell_at : Array (Option Value)} {cd_L_cell_at : Value} {f_L_source : Addr} {oc_L_source kV_L_source dc_L_source pm_L_source ct_L_source : Value} {od_L_source an_L_source : Option Addr} {sl_L_source : Array (Option Value)} {cd_L_source : Value} {f_L_take : Addr} {oc_L_take kV_L_take dc_L_take pm_L_take ct_L_take : Value} {od_L_take an_L_take : Option Addr} {sl_L_take : Array (Option Value)} {cd_L_take : Value} {f_L_word : Addr} {oc_L_word kV_L_word dc_L_word pm_L_word ct_L_word : Value} {od_L_word an_L_word : Option Addr} {sl_L_word : Array (Option Value)} {cd_L_word : Value} {f_P_is_bundle : Addr} {oc_P_is_bundle kV_P_is_bundle dc_P_is_bundle pm_P_is_bundle ct_P_is_bundle : Value} {od_P_is_bundle an_P_is_bundle : Option Addr} {sl_P_is_bundle : Array (Option Value)} {co_P_is_bundle t_P_is_bundle : Addr} {e_P_is_bundle : Value} {dd_P_is_bundle : Option Addr} {vs_P_is_bundle : Array Value} {sk_P_is_bundle : Array (Option Value)} {f_P_is_list : Addr} {oc_P_is_list kV_P_is_list dc_P_is_list pm_P_is_list ct_P_is_list : Value} {od_P_is_list an_P_is_list : Option Addr} {sl_P_is_list : Array (Option Value)} {cd_P_is_list : Value} {f_L_order : Addr} {oc_L_order kV_L_order dc_L_order pm_L_order ct_L_order : Value} {od_L_order an_L_order : Option Addr} {sl_L_order : Array (Option Value)} {cd_L_order : Value} {f_L_share : Addr} {oc_L_share kV_L_share dc_L_share pm_L_share ct_L_share : Value} {od_L_share an_L_share : Option Addr} {sl_L_share : Array (Option Value)} {cd_L_share : Value} {f_L_moved : Addr} {oc_L_moved kV_L_moved dc_L_moved pm_L_moved ct_L_moved : Value} {od_L_moved an_L_moved : Option Addr} {sl_L_moved : Array (Option Value)} {cd_L_moved : Value} {f_P_check_ranking : Addr} {oc_P_check_ranking kV_P_check_ranking dc_P_check_ranking pm_P_check_ranking ct_P_check_ranking : Value} {od_P_check_ranking an_P_check_ranking : Option Addr} {sl_P_check_ranking : Array (Option Value)} {cd_P_check_ranking : Value} {f_P_compare : Addr} {oc_P_compare kV_P_compare dc_P_compare pm_P_compare ct_P_compare : Value} {od_P_compare an_P_compare : Option Addr} {sl_P_compare : Array (Option Value)} {cd_P_compare : Value} {f_P_law : Addr} {oc_P_law kV_P_law dc_P_law pm_P_law ct_P_law : Value} {od_P_law an_P_law : Option Addr} {sl_P_law : Array (Option Value)} {cd_P_law : Value} {v_MOST_KINDS : Tok} (hden : ∀ ns : List Int, ns.length ≤ 63 → (∀ z ∈ ns, Builtin.Int.intBits z ≤ 1048576) → ∃ μ2, d_P_law [.lst (ns.map .int)] [] = some (.ok (.bl true), μ2)) (X : K.In h) (G : h.Ns mainGlobals mg) (hfa : mg "law" = some (.ref fa)) (TB : TabsOf q K mg h)
    (a_P_is_integer : PySem.W.nsIn K mainGlobals "is_integer" = some (some (.ref f_P_is_integer)))
    (l_P_is_integer : K.lookup f_P_is_integer = some ⟨oc_P_is_integer, od_P_is_integer, .func (PySem.W.fnOf "is_integer" "is_integer" (defArgs s_P_is_integer) (defBody s_P_is_integer) (defScope s_P_is_integer) .none kV_P_is_integer dc_P_is_integer pm_P_is_integer an_P_is_integer cd_P_is_integer ct_P_is_integer), sl_P_is_integer⟩)
    (c_P_is_integer : PySem.W.codeIn K cd_P_is_integer "is_integer" = true)
    (k_P_is_integer : PySem.W.keepIn K (.ref f_P_is_integer) = true)
    (a_P_are_kinds : PySem.W.nsIn K mainGlobals "are_kinds" = some (some (.ref f_P_are_kinds)))
    (l_P_are_kinds : K.lookup f_P_are_kinds = some ⟨oc_P_are_kinds, od_P_are_kinds, .func (PySem.W.fnOf "are_kinds" "are_kinds" (defArgs s_P_are_kinds) (defBody s_P_are_kinds) (defScope s_P_are_kinds) .none kV_P_are_kinds dc_P_are_kinds pm_P_are_kinds an_P_are_kinds cd_P_are_kinds ct_P_are_kinds), sl_P_are_kinds⟩)
    (c_P_are_kinds : PySem.W.codeIn K cd_P_are_kinds "are_kinds" = true)
    (k_P_are_kinds : PySem.W.keepIn K (.ref f_P_are_kinds) = true)
    (a_P_kinds_in : PySem.W.nsIn K mainGlobals "kinds_in" = some (some (.ref f_P_kinds_in)))
    (l_P_kinds_in : K.lookup f_P_kinds_in = some ⟨oc_P_kinds_in, od_P_kinds_in, .func (PySem.W.fnOf "kinds_in" "kinds_in" (defArgs s_P_kinds_in) (defBody s_P_kinds_in) (defScope s_P_kinds_in) .none kV_P_kinds_in dc_P_kinds_in pm_P_kinds_in an_P_kinds_in cd_P_kinds_in ct_P_kinds_in), sl_P_kinds_in⟩)
    (c_P_kinds_in : PySem.W.codeIn K cd_P_kinds_in "kinds_in" = true)
    (k_P_kinds_in : PySem.W.keepIn K (.ref f_P_kinds_in) = true)
    (a_P_prefix_items : PySem.W.nsIn K mainGlobals "prefix_items" = some (some (.ref f_P_prefix_items)))
    (l_P_prefix_items : K.lookup f_P_prefix_items = some ⟨oc_P_prefix_items, od_P_prefix_items, .func (PySem.W.fnOf "prefix_items" "prefix_items" (defArgs s_P_prefix_items) (defBody s_P_prefix_items) (defScope s_P_prefix_items) .none kV_P_prefix_items dc_P_prefix_items pm_P_prefix_items an_P_prefix_items cd_P_prefix_items ct_P_prefix_items), sl_P_prefix_items⟩)
    (c_P_prefix_items : PySem.W.codeIn K cd_P_prefix_items "prefix_items" = true)
    (k_P_prefix_items : PySem.W.keepIn K (.ref f_P_prefix_items) = true)
    (a_L_cell_at : PySem.W.nsIn K mainGlobals "_law_cell_at" = some (some (.ref f_L_cell_at)))
    (l_L_cell_at : K.lookup f_L_cell_at = some ⟨oc_L_cell_at, od_L_cell_at, .func (PySem.W.fnOf "_law_cell_at" "_law_cell_at" (defArgs s_L_cell_at) (defBody s_L_cell_at) (defScope s_L_cell_at) .none kV_L_cell_at dc_L_cell_at pm_L_cell_at an_L_cell_at cd_L_cell_at ct_L_cell_at), sl_L_cell_at⟩)
    (c_L_cell_at : PySem.W.codeIn K cd_L_cell_at "_law_cell_at" = true)
    (k_L_cell_at : PySem.W.keepIn K (.ref f_L_cell_at) = true)
    (a_L_source : PySem.W.nsIn K mainGlobals "_law_source" = some (some (.ref f_L_source)))
    (l_L_source : K.lookup f_L_source = some ⟨oc_L_source, od_L_source, .func (PySem.W.fnOf "_law_source" "_law_source" (defArgs s_L_source) (defBody s_L_source) (defScope s_L_source) .none kV_L_source dc_L_source pm_L_source an_L_source cd_L_source ct_L_source), sl_L_source⟩)
    (c_L_source : PySem.W.codeIn K cd_L_source "_law_source" = true)
    (k_L_source : PySem.W.keepIn K (.ref f_L_source) = true)
    (a_L_take : PySem.W.nsIn K mainGlobals "_law_take" = some (some (.ref f_L_take)))
    (l_L_take : K.lookup f_L_take = some ⟨oc_L_take, od_L_take, .func (PySem.W.fnOf "_law_take" "_law_take" (defArgs s_L_take) (defBody s_L_take) (defScope s_L_take) .none kV_L_take dc_L_take pm_L_take an_L_take cd_L_take ct_L_take), sl_L_take⟩)
    (c_L_take : PySem.W.codeIn K cd_L_take "_law_take" = true)
    (k_L_take : PySem.W.keepIn K (.ref f_L_take) = true)
    (a_L_word : PySem.W.nsIn K mainGlobals "_law_word" = some (some (.ref f_L_word)))
    (l_L_word : K.lookup f_L_word = some ⟨oc_L_word, od_L_word, .func (PySem.W.fnOf "_law_word" "_law_word" (defArgs s_L_word) (defBody s_L_word) (defScope s_L_word) .none kV_L_word dc_L_word pm_L_word an_L_word cd_L_word ct_L_word), sl_L_word⟩)
    (c_L_word : PySem.W.codeIn K cd_L_word "_law_word" = true)
    (k_L_word : PySem.W.keepIn K (.ref f_L_word) = true)
    (a_P_is_bundle : PySem.W.nsIn K mainGlobals "is_bundle" = some (some (.ref f_P_is_bundle)))
    (l_P_is_bundle : K.lookup f_P_is_bundle = some ⟨oc_P_is_bundle, od_P_is_bundle, .func (PySem.W.fnOf "is_bundle" "is_bundle" (defArgs s_P_is_bundle) (defBody s_P_is_bundle) (defScope s_P_is_bundle) .none kV_P_is_bundle dc_P_is_bundle pm_P_is_bundle an_P_is_bundle (.ref co_P_is_bundle) ct_P_is_bundle), sl_P_is_bundle⟩)
    (c_P_is_bundle : PySem.W.codeIn K (.ref co_P_is_bundle) "is_bundle" = true)
    (k_P_is_bundle : PySem.W.keepIn K (.ref f_P_is_bundle) = true)
    (h_P_is_bundle : K.lookup co_P_is_bundle = some ⟨e_P_is_bundle, dd_P_is_bundle, .fields vs_P_is_bundle, sk_P_is_bundle⟩)
    (i_P_is_bundle : vs_P_is_bundle[11]? = some (.ref t_P_is_bundle))
    (j_P_is_bundle : PySem.W.codeHdIn K co_P_is_bundle t_P_is_bundle = true)
    (n_P_is_bundle : K.lookup t_P_is_bundle = none)
    (r_P_is_bundle : ((recsOf q).any fun e => e.name == ("is_bundle" : Str)) = true)
    (a_P_is_list : PySem.W.nsIn K mainGlobals "is_list" = some (some (.ref f_P_is_list)))
    (l_P_is_list : K.lookup f_P_is_list = some ⟨oc_P_is_list, od_P_is_list, .func (PySem.W.fnOf "is_list" "is_list" (defArgs s_P_is_list) (defBody s_P_is_list) (defScope s_P_is_list) .none kV_P_is_list dc_P_is_list pm_P_is_list an_P_is_list cd_P_is_list ct_P_is_list), sl_P_is_list⟩)
    (c_P_is_list : PySem.W.codeIn K cd_P_is_list "is_list" = true)
    (k_P_is_list : PySem.W.keepIn K (.ref f_P_is_list) = true)
    (a_L_order : PySem.W.nsIn K mainGlobals "_law_order" = some (some (.ref f_L_order)))
    (l_L_order : K.lookup f_L_order = some ⟨oc_L_order, od_L_order, .func (PySem.W.fnOf "_law_order" "_law_order" (defArgs s_L_order) (defBody s_L_order) (defScope s_L_order) .none kV_L_order dc_L_order pm_L_order an_L_order cd_L_order ct_L_order), sl_L_order⟩)
    (c_L_order : PySem.W.codeIn K cd_L_order "_law_order" = true)
    (k_L_order : PySem.W.keepIn K (.ref f_L_order) = true)
    (a_L_share : PySem.W.nsIn K mainGlobals "_law_share" = some (some (.ref f_L_share)))
    (l_L_share : K.lookup f_L_share = some ⟨oc_L_share, od_L_share, .func (PySem.W.fnOf "_law_share" "_law_share" (defArgs s_L_share) (defBody s_L_share) (defScope s_L_share) .none kV_L_share dc_L_share pm_L_share an_L_share cd_L_share ct_L_share), sl_L_share⟩)
    (c_L_share : PySem.W.codeIn K cd_L_share "_law_share" = true)
    (k_L_share : PySem.W.keepIn K (.ref f_L_share) = true)
    (a_L_moved : PySem.W.nsIn K mainGlobals "_law_moved" = some (some (.ref f_L_moved)))
    (l_L_moved : K.lookup f_L_moved = some ⟨oc_L_moved, od_L_moved, .func (PySem.W.fnOf "_law_moved" "_law_moved" (defArgs s_L_moved) (defBody s_L_moved) (defScope s_L_moved) .none kV_L_moved dc_L_moved pm_L_moved an_L_moved cd_L_moved ct_L_moved), sl_L_moved⟩)
    (c_L_moved : PySem.W.codeIn K cd_L_moved "_law_moved" = true)
    (k_L_moved : PySem.W.keepIn K (.ref f_L_moved) = true)
    (a_P_check_ranking : PySem.W.nsIn K mainGlobals "check_ranking" = some (some (.ref f_P_check_ranking)))
    (l_P_check_ranking : K.lookup f_P_check_ranking = some ⟨oc_P_check_ranking, od_P_check_ranking, .func (PySem.W.fnOf "check_ranking" "check_ranking" (defArgs s_P_check_ranking) (defBody s_P_check_ranking) (defScope s_P_check_ranking) .none kV_P_check_ranking dc_P_check_ranking pm_P_check_ranking an_P_check_ranking cd_P_check_ranking ct_P_check_ranking), sl_P_check_ranking⟩)
    (c_P_check_ranking : PySem.W.codeIn K cd_P_check_ranking "check_ranking" = true)
    (k_P_check_ranking : PySem.W.keepIn K (.ref f_P_check_ranking) = true)
    (a_P_compare : PySem.W.nsIn K mainGlobals "compare" = some (some (.ref f_P_compare)))
    (l_P_compare : K.lookup f_P_compare = some ⟨oc_P_compare, od_P_compare, .func (PySem.W.fnOf "compare" "compare" (defArgs s_P_compare) (defBody s_P_compare) (defScope s_P_compare) .none kV_P_compare dc_P_compare pm_P_compare an_P_compare cd_P_compare ct_P_compare), sl_P_compare⟩)
    (c_P_compare : PySem.W.codeIn K cd_P_compare "compare" = true)
    (k_P_compare : PySem.W.keepIn K (.ref f_P_compare) = true)
    (a_P_law : PySem.W.nsIn K mainGlobals "law" = some (some (.ref f_P_law)))
    (l_P_law : K.lookup f_P_law = some ⟨oc_P_law, od_P_law, .func (PySem.W.fnOf "law" "law" (defArgs s_P_law) (defBody s_P_law) (defScope s_P_law) .none kV_P_law dc_P_law pm_P_law an_P_law cd_P_law ct_P_law), sl_P_law⟩)
    (c_P_law : PySem.W.codeIn K cd_P_law "law" = true)
    (k_P_law : PySem.W.keepIn K (.ref f_P_law) = true)
    (z_all : PySem.W.nsIn K mainGlobals "all" = some none)
    (z_bool : PySem.W.nsIn K mainGlobals "bool" = some none)
    (z_enumerate : PySem.W.nsIn K mainGlobals "enumerate" = some none)
    (z_int : PySem.W.nsIn K mainGlobals "int" = some none)
    (z_isinstance : PySem.W.nsIn K mainGlobals "isinstance" = some none)
    (z_len : PySem.W.nsIn K mainGlobals "len" = some none)
    (z_list : PySem.W.nsIn K mainGlobals "list" = some none)
    (z_max : PySem.W.nsIn K mainGlobals "max" = some none)
    (z_min : PySem.W.nsIn K mainGlobals "min" = some none)
    (z_range : PySem.W.nsIn K mainGlobals "range" = some none)
    (z_sorted : PySem.W.nsIn K mainGlobals "sorted" = some none)
    (z_tuple : PySem.W.nsIn K mainGlobals "tuple" = some none)
    (z_zip : PySem.W.nsIn K mainGlobals "zip" = some none)
    (zi_accumulate : PySem.W.nsIn K mainGlobals "accumulate" = some (some (.type "itertools.accumulate")))
    (g_MOST_KINDS : PySem.W.nsIn K mainGlobals "MOST_KINDS" = some (some (.int 60 v_MOST_KINDS)))
    (noL : K.all (fun p => !(p.2.cls == .type "list")) = true) :
    LawG l w K 5 63 "_law_script" mg fa h := by
  have e0 := hfa.symm.trans (PySem.W.mg_of X G a_P_law)
  cases e0
  have F_P_is_integer := funC_mk (st := s_P_is_integer) l_P_is_integer c_P_is_integer k_P_is_integer (PySem.W.mg_of X G a_P_is_integer)
  have B_P_is_integer := F_P_is_integer.fn.binds (ps := ["value"]) fun _ _ _ _ _ _ us hl => match us, hl with | [_], _ => rfl
  have F_P_are_kinds := funC_mk (st := s_P_are_kinds) l_P_are_kinds c_P_are_kinds k_P_are_kinds (PySem.W.mg_of X G a_P_are_kinds)
  have B_P_are_kinds := F_P_are_kinds.fn.binds (ps := ["values", "kinds"]) fun _ _ _ _ _ _ us hl => match us, hl with | [_, _], _ => rfl
  have F_P_kinds_in := funC_mk (st := s_P_kinds_in) l_P_kinds_in c_P_kinds_in k_P_kinds_in (PySem.W.mg_of X G a_P_kinds_in)
  have B_P_kinds_in := F_P_kinds_in.fn.binds (ps := ["value"]) fun _ _ _ _ _ _ us hl => match us, hl with | [_], _ => rfl
  have F_P_prefix_items := funC_mk (st := s_P_prefix_items) l_P_prefix_items c_P_prefix_items k_P_prefix_items (PySem.W.mg_of X G a_P_prefix_items)
  have B_P_prefix_items := F_P_prefix_items.fn.binds (ps := ["bundle", "ranking"]) fun _ _ _ _ _ _ us hl => match us, hl with | [_, _], _ => rfl
  have F_L_cell_at := funC_mk (st := s_L_cell_at) l_L_cell_at c_L_cell_at k_L_cell_at (PySem.W.mg_of X G a_L_cell_at)
  have B_L_cell_at := F_L_cell_at.fn.binds (ps := ["_law_script", "_law_k"]) fun _ _ _ _ _ _ us hl => match us, hl with | [_, _], _ => rfl
  have F_L_source := funC_mk (st := s_L_source) l_L_source c_L_source k_L_source (PySem.W.mg_of X G a_L_source)
  have B_L_source := F_L_source.fn.binds (ps := ["_law_cell"]) fun _ _ _ _ _ _ us hl => match us, hl with | [_], _ => rfl
  have F_L_take := funC_mk (st := s_L_take) l_L_take c_L_take k_L_take (PySem.W.mg_of X G a_L_take)
  have B_L_take := F_L_take.fn.binds (ps := ["_law_source_here", "_law_bound"]) fun _ _ _ _ _ _ us hl => match us, hl with | [_, _], _ => rfl
  have F_L_word := funC_mk (st := s_L_word) l_L_word c_L_word k_L_word (PySem.W.mg_of X G a_L_word)
  have B_L_word := F_L_word.fn.binds (ps := ["_law_order_here", "_law_mine", "_law_theirs"]) fun _ _ _ _ _ _ us hl => match us, hl with | [_, _, _], _ => rfl
  have F_P_is_bundle := funC_mk (st := s_P_is_bundle) l_P_is_bundle c_P_is_bundle k_P_is_bundle (PySem.W.mg_of X G a_P_is_bundle)
  have B_P_is_bundle := F_P_is_bundle.fn.binds (ps := ["value", "kinds"]) fun _ _ _ _ _ _ us hl => match us, hl with | [_, _], _ => rfl
  have F_P_is_list := funC_mk (st := s_P_is_list) l_P_is_list c_P_is_list k_P_is_list (PySem.W.mg_of X G a_P_is_list)
  have B_P_is_list := F_P_is_list.fn.binds (ps := ["value", "kinds"]) fun _ _ _ _ _ _ us hl => match us, hl with | [_, _], _ => rfl
  have F_L_order := funC_mk (st := s_L_order) l_L_order c_L_order k_L_order (PySem.W.mg_of X G a_L_order)
  have B_L_order := F_L_order.fn.binds (ps := ["_law_source_here", "_law_size"]) fun _ _ _ _ _ _ us hl => match us, hl with | [_, _], _ => rfl
  have F_L_share := funC_mk (st := s_L_share) l_L_share c_L_share k_L_share (PySem.W.mg_of X G a_L_share)
  have B_L_share := F_L_share.fn.binds (ps := ["_law_source_here", "_law_size", "_law_top"]) fun _ _ _ _ _ _ us hl => match us, hl with | [_, _, _], _ => rfl
  have F_L_moved := funC_mk (st := s_L_moved) l_L_moved c_L_moved k_L_moved (PySem.W.mg_of X G a_L_moved)
  have B_L_moved := F_L_moved.fn.binds (ps := ["_law_source_here", "_law_line"]) fun _ _ _ _ _ _ us hl => match us, hl with | [_, _], _ => rfl
  have F_P_check_ranking := funC_mk (st := s_P_check_ranking) l_P_check_ranking c_P_check_ranking k_P_check_ranking (PySem.W.mg_of X G a_P_check_ranking)
  have B_P_check_ranking := F_P_check_ranking.fn.binds (ps := ["ranking", "kinds"]) fun _ _ _ _ _ _ us hl => match us, hl with | [_, _], _ => rfl
  have F_P_compare := funC_mk (st := s_P_compare) l_P_compare c_P_compare k_P_compare (PySem.W.mg_of X G a_P_compare)
  have B_P_compare := F_P_compare.fn.binds (ps := ["ranking", "one", "other"]) fun _ _ _ _ _ _ us hl => match us, hl with | [_, _, _], _ => rfl
  have F_P_law := funC_mk (st := s_P_law) l_P_law c_P_law k_P_law (PySem.W.mg_of X G a_P_law)
  have B_P_law := F_P_law.fn.binds (ps := ["_law_script"]) fun _ _ _ _ _ _ us hl => match us, hl with | [_], _ => rfl
  have e_t_P_is_bundle := TB "is_bundle" _ _ _ _ _ _ _ _ _ r_P_is_bundle F_P_is_bundle.mgf l_P_is_bundle rfl rfl h_P_is_bundle i_P_is_bundle
  refine ⟨PySem.W.fnOf "law" "law" (defArgs s_P_law) (defBody s_P_law) (defScope s_P_law) .none kV_P_law dc_P_law pm_P_law an_P_law cd_P_law ct_P_law, [(co_P_is_bundle, t_P_is_bundle)], d_P_law, fun p hp => by simp only [List.mem_cons, List.not_mem_nil, or_false] at hp; rcases hp with rfl; all_goals first | exact e_t_P_is_bundle, fun p hp => by simp only [List.mem_cons, List.not_mem_nil, or_false] at hp; rcases hp with rfl; all_goals first | exact n_P_is_bundle, fun p hp => by simp only [List.mem_cons, List.not_mem_nil, or_false] at hp; rcases hp with rfl; all_goals first | exact PySem.W.codeHd_of_K X j_P_is_bundle, fun s u => BindsTo.of_eq rfl, hden, fun a o e => ?_, fun base KB GB TBs => ?_⟩
  · have h1 := (List.all_eq_true.mp noL) (a, o) (memLk e)
    intro z
    simp [z] at h1
  · have T : Txt K w mg base (fun P => P ∈ ([(co_P_is_bundle, t_P_is_bundle)] : List (Addr × Addr)).map (·.2)) ⟨f_P_is_integer, _, cd_P_is_integer, f_P_are_kinds, _, cd_P_are_kinds, f_P_kinds_in, _, cd_P_kinds_in, f_P_prefix_items, _, cd_P_prefix_items, f_L_cell_at, _, cd_L_cell_at, f_L_source, _, cd_L_source, f_L_take, _, cd_L_take, f_L_word, _, cd_L_word, f_P_is_bundle, _, (.ref co_P_is_bundle), f_P_is_list, _, cd_P_is_list, f_L_order, _, cd_L_order, f_L_share, _, cd_L_share, f_L_moved, _, cd_L_moved, f_P_check_ranking, _, cd_P_check_ranking, f_P_compare, _, cd_P_compare, fa, _, cd_P_law, t_P_is_bundle, co_P_is_bundle, v_MOST_KINDS⟩ := ⟨F_P_is_integer,
      B_P_is_integer,
      F_P_are_kinds,
      B_P_are_kinds,
      F_P_kinds_in,
      B_P_kinds_in,
      F_P_prefix_items,
      B_P_prefix_items,
      F_L_cell_at,
      B_L_cell_at,
      F_L_source,
      B_L_source,
      F_L_take,
      B_L_take,
      F_L_word,
      B_L_word,
      F_P_is_bundle,
      B_P_is_bundle,
      F_P_is_list,
      B_P_is_list,
      F_L_order,
      B_L_order,
      F_L_share,
      B_L_share,
      F_L_moved,
      B_L_moved,
      F_P_check_ranking,
      B_P_check_ranking,
      F_P_compare,
      B_P_compare,
      F_P_law,
      B_P_law,
      fun s ws _ hl => match ws, hl with | [_, _, _], _ => BindsTo.of_eq rfl,
      PySem.W.mg_none_of X G z_all,
      PySem.W.mg_none_of X G z_bool,
      PySem.W.mg_none_of X G z_enumerate,
      PySem.W.mg_none_of X G z_int,
      PySem.W.mg_none_of X G z_isinstance,
      PySem.W.mg_none_of X G z_len,
      PySem.W.mg_none_of X G z_list,
      PySem.W.mg_none_of X G z_max,
      PySem.W.mg_none_of X G z_min,
      PySem.W.mg_none_of X G z_range,
      PySem.W.mg_none_of X G z_sorted,
      PySem.W.mg_none_of X G z_tuple,
      PySem.W.mg_none_of X G z_zip,
      PySem.W.mg_of X G zi_accumulate,
      PySem.W.mg_of X G g_MOST_KINDS,
      rfl,
      TBs (co_P_is_bundle, t_P_is_bundle) (by simp),
      by show t_P_is_bundle ∈ _; simp⟩
    exact TX.k_P_law T
end
end TX
open PySem PySem.W PyProof.Rows in
set_option maxRecDepth 100000 in
set_option maxHeartbeats 0 in
theorem PySem.Challenge.cw_turnpicks_k45_bundles_compared_holds : PySem.Challenge.rw_turnpicks_k45_bundles_compared.Holds := by
  w_on; o_law; k_head; (case hw => w_witness2)
  k_fill
  refine DL.walk_GT (l := PySem.Challenge.rw_turnpicks_k45_bundles_compared) (n := 63) (k := 5) (x := "_law_script") rfl (by decide) rfl ⟨rfl, by decide, by decide⟩ (fun w h Y => PySem.W.kIn_of Y) ?F
  case F =>
    intro w mg fa h Y KX G hmg TB
    refine' TX.all_mk TX.den_law KX G hmg TB ?a_P_is_integer ?l_P_is_integer ?c_P_is_integer ?k_P_is_integer ?a_P_are_kinds ?l_P_are_kinds ?c_P_are_kinds ?k_P_are_kinds ?a_P_kinds_in ?l_P_kinds_in ?c_P_kinds_in ?k_P_kinds_in ?a_P_prefix_items ?l_P_prefix_items ?c_P_prefix_items ?k_P_prefix_items ?a_L_cell_at ?l_L_cell_at ?c_L_cell_at ?k_L_cell_at ?a_L_source ?l_L_source ?c_L_source ?k_L_source ?a_L_take ?l_L_take ?c_L_take ?k_L_take ?a_L_word ?l_L_word ?c_L_word ?k_L_word ?a_P_is_bundle ?l_P_is_bundle ?c_P_is_bundle ?k_P_is_bundle ?h_P_is_bundle ?i_P_is_bundle ?j_P_is_bundle ?n_P_is_bundle ?r_P_is_bundle ?a_P_is_list ?l_P_is_list ?c_P_is_list ?k_P_is_list ?a_L_order ?l_L_order ?c_L_order ?k_L_order ?a_L_share ?l_L_share ?c_L_share ?k_L_share ?a_L_moved ?l_L_moved ?c_L_moved ?k_L_moved ?a_P_check_ranking ?l_P_check_ranking ?c_P_check_ranking ?k_P_check_ranking ?a_P_compare ?l_P_compare ?c_P_compare ?k_P_compare ?a_P_law ?l_P_law ?c_P_law ?k_P_law ?z_all ?z_bool ?z_enumerate ?z_int ?z_isinstance ?z_len ?z_list ?z_max ?z_min ?z_range ?z_sorted ?z_tuple ?z_zip ?zi_accumulate ?g_MOST_KINDS ?noL
    (case a_P_is_integer => k_is)
    (case l_P_is_integer => k_is)
    (case c_P_is_integer => k_is)
    (case k_P_is_integer => k_is)
    (case a_P_are_kinds => k_is)
    (case l_P_are_kinds => k_is)
    (case c_P_are_kinds => k_is)
    (case k_P_are_kinds => k_is)
    (case a_P_kinds_in => k_is)
    (case l_P_kinds_in => k_is)
    (case c_P_kinds_in => k_is)
    (case k_P_kinds_in => k_is)
    (case a_P_prefix_items => k_is)
    (case l_P_prefix_items => k_is)
    (case c_P_prefix_items => k_is)
    (case k_P_prefix_items => k_is)
    (case a_L_cell_at => k_is)
    (case l_L_cell_at => k_is)
    (case c_L_cell_at => k_is)
    (case k_L_cell_at => k_is)
    (case a_L_source => k_is)
    (case l_L_source => k_is)
    (case c_L_source => k_is)
    (case k_L_source => k_is)
    (case a_L_take => k_is)
    (case l_L_take => k_is)
    (case c_L_take => k_is)
    (case k_L_take => k_is)
    (case a_L_word => k_is)
    (case l_L_word => k_is)
    (case c_L_word => k_is)
    (case k_L_word => k_is)
    (case a_P_is_bundle => k_is)
    (case l_P_is_bundle => k_is)
    (case c_P_is_bundle => k_is)
    (case k_P_is_bundle => k_is)
    (case h_P_is_bundle => k_is)
    (case i_P_is_bundle => first | k_is | rfl | decide +kernel)
    (case j_P_is_bundle => first | kernel_rfl | rfl)
    (case n_P_is_bundle => first | kernel_rfl | rfl)
    (case r_P_is_bundle => first | rfl | decide +kernel | k_is)
    (case a_P_is_list => k_is)
    (case l_P_is_list => k_is)
    (case c_P_is_list => k_is)
    (case k_P_is_list => k_is)
    (case a_L_order => k_is)
    (case l_L_order => k_is)
    (case c_L_order => k_is)
    (case k_L_order => k_is)
    (case a_L_share => k_is)
    (case l_L_share => k_is)
    (case c_L_share => k_is)
    (case k_L_share => k_is)
    (case a_L_moved => k_is)
    (case l_L_moved => k_is)
    (case c_L_moved => k_is)
    (case k_L_moved => k_is)
    (case a_P_check_ranking => k_is)
    (case l_P_check_ranking => k_is)
    (case c_P_check_ranking => k_is)
    (case k_P_check_ranking => k_is)
    (case a_P_compare => k_is)
    (case l_P_compare => k_is)
    (case c_P_compare => k_is)
    (case k_P_compare => k_is)
    (case a_P_law => k_is)
    (case l_P_law => k_is)
    (case c_P_law => k_is)
    (case k_P_law => k_is)
    (case z_all => k_is)
    (case z_bool => k_is)
    (case z_enumerate => k_is)
    (case z_int => k_is)
    (case z_isinstance => k_is)
    (case z_len => k_is)
    (case z_list => k_is)
    (case z_max => k_is)
    (case z_min => k_is)
    (case z_range => k_is)
    (case z_sorted => k_is)
    (case z_tuple => k_is)
    (case z_zip => k_is)
    (case zi_accumulate => k_is)
    (case g_MOST_KINDS => k_is)
    (case noL => first | k_is | rfl | decide +kernel)

