import PyProof.Rows.All
import Wide.All
import OpenK.AllK
import Wide.FinOn
import HandS.ForMost
import HandS.ForExc
import HandS.IsInst
import HandS.TupAny
import HandS.TupMul
import KE.GoesEnum
import KE.GoesMore
import HandS.Walk
import HandS.ExcInit
import HandS.ExcField
import KE.KExcIs
import HandS.WordsDict
import HandS.ExcIs
import HandS.Codes
import PySem.Challenge.RW_fourstrokes_k01_boxes_judged_and_kept
set_option Elab.async false
set_option linter.all false
set_option maxRecDepth 100000
set_option maxHeartbeats 4000000
/-! Defs whose text asks repr: the calls below hold where no repr is under way (guards are known to be none). -/
namespace GL
open PySem PySem.Spec PyProof.Rows L2
/-! ### data -/
theorem seqT_up {K : PySem.W.Frag} {G H : Hp} {a : Addr} {xs : List V} (e : Same G H) (h : SqT K G a xs) : SqT K H a xs := by
  cases h with
  | inl h =>
    cases h with
    | inl h => exact Or.inl (Or.inl (e _ _ h))
    | inr h => exact h.elim fun o q => Or.inl (Or.inr ⟨o, e _ _ q⟩)
  | inr h => exact Or.inr h
mutual
theorem dp_up {K : PySem.W.Frag} {G H : Hp} (e : Same G H) : ∀ (d : PyData) (v : V), Dp K G v d → Dp K H v d
  | .none, _, h => by cases h; exact .non
  | .bool b, _, h => by cases h; exact .bl b
  | .int i, _, h => by cases h; exact .int i
  | .str x, _, h => by cases h; exact .str x
  | .list ds, _, h => by
    cases h with
    | lst q r => exact .lst (e.seq q) (dpAll_up e ds _ r)
  | .tuple ds, _, h => by
    cases h with
    | tup q r => exact .tup (seqT_up e q) (dpAll_up e ds _ r)
  | .dict _, _, h => by cases h
theorem dpAll_up {K : PySem.W.Frag} {G H : Hp} (e : Same G H) : ∀ (ds : List PyData) (vs : List V), DpAll K G vs ds → DpAll K H vs ds
  | [], _, h => by cases h; exact .nil
  | d :: ds, _, h => by
    cases h with
    | cons q r => exact .cons (dp_up e d _ q) (dpAll_up e ds _ r)
end
/-- repr(x), x a list or a tuple of data, where no repr is under way -/
theorem call_reprD {X : Cx} (hg : X.A.guards = some []) (hu : X.A.units + 64 < cLine) :
    CallR X (.builtin "repr") (fun xs H Q => ∃ (a : Addr) (d : PyData), xs = [V.ref a] ∧ Dp X.K H (.ref a) d ∧ d.showable = true ∧ d.hasDict = false ∧ d.depth ≤ 60 ∧ d.shown.length ≤ sizeLine ∧ Q (.str d.shown) H) := by
  intro pins s σ H xs us Q I r h
  obtain ⟨a, d, rfl, hd, hs, hn, hdep, hz, q⟩ := h
  obtain ⟨u, rfl, ru⟩ := vals1 r
  obtain ⟨as, rd⟩ := Dp.reads I d _ _ hd ru
  obtain rfl : u = Value.ref a := ru
  exact repr_of_reads' rd hs (PyData.noDict_hsm hn) hg (by omega) (fun _ _ z => z) (fun h1 u1 tk1 k => ⟨V.str d.shown, H, I.kept k, ⟨u1, rfl⟩, q⟩) hz
/-! ### defs and calls where no repr is under way -/
structure FnG (P : Program) (w : World) (K : PySem.W.Frag) (mg : Str → Option Value) (base : Heap) (k : Nat) (f : Addr) (fd : FuncData) (ps : List Str) (sp : Sp) : Prop where
  size : ∀ vs H Q, sp vs H Q E0 → vs.length = ps.length
  does : ∀ (A : Around) (up : List Env) (s : Shared) (H : Hp) (ar : Args) (us : List Value) (vs : List V) (Q : VK), A.guards = some [] → Room k A → Env0 P w K mg base A up s H → BindsTo s fd ar (ps.zip us) → Vals vs us → sp vs H Q E0 →
    codeAny (model P w) A (.call (.ref f) ar) (CR CX0 up P w H s Q E0) s
section
variable {P : Program} {w : World} {K : PySem.W.Frag} {mg : Str → Option Value} {base : Heap}
theorem _root_.L2.Fun.okG {x qual : Str} {st : Stmt} {f : Addr} {fd : FuncData} {N ps : List Str} {k : Nat} {sp : Sp} (F : Fun K x qual st f fd) (S : FnScope N ps (defScope st)) (size : ∀ vs H Q, sp vs H Q E0 → vs.length = ps.length)
    (body : ∀ (cdv : Value) (A : Around) (up : List Env) (s : Shared) (H : Hp) (vs : List V) (Q : VK), A.guards = some [] → Room k (A.deeper (envOfC qual (defScope st) s.heap.objs.size f cdv)) → sp vs H Q E0 →
      ∃ t, PSs (cxOf CX0 P w K mg base N qual (defScope st) f cdv A up s H E0).nox (defBody st) t ∧ t { nx := fun _ H' => Q .non H', rt := Q } (start N vs) H) : FnG P w K mg base (k + 1) f fd ps sp := by
  obtain ⟨oc, od, kV, doc, pm, an, cdv, ct, osl, rfl, lk, hcd⟩ := F.ex
  refine ⟨size, ?_⟩
  intro A up s H ar us vs Q hg hr env hb rv hsp
  have nvs := size _ _ _ hsp
  have st0 : ∀ b o, base.get? b = some o → s.heap.get? b = some o := fun b o z => (env.bs b o z).1
  have inK := env.mod.kin.keeps st0
  have kinds : ∀ y ∈ ps.zip us, (defScope st).names.lookup y.1 = some .local ∨ ((defScope st).names.lookup y.1 = some .cell ∧ ((cellsFrom (s.heap.objs.size + 1) (defScope st).names []).lookup y.1).isSome = true) := by
    intro y hy
    have hp := S.par y.1 (List.of_mem_zip (a := y.1) (b := y.2) hy).1
    exact hp.imp id fun z => ⟨z, PySem.W.cellsFrom_some _ _ _ (.inl z)⟩
  refine codeAny_call_function hr.depth (inK _ _ lk) rfl S.co S.gen rfl (PySem.W.codeRec_of inK hcd) (hb _ _ _ _ ?_)
  refine wpAny_newFunctionEnv_cells S.kind kinds ?_
  rintro env' rfl s1 ic
  refine ⟨(env.mod.nolimit.keeps st0).keeps ic.toInCall.keep, codeAny_func ?_⟩
  obtain ⟨t, ht, hq⟩ := body cdv A up s H vs Q hg (hr.deeper _) hsp
  have J := inv_start (CX := CX0) (P := P) (w := w) (E := E0) S hr.hd env nvs rv ic
  refine wpAny_mono (ht.nox.run [] s1 (start N vs) H _ J hq) (fun fl s' z => ?_) (fun _ _ z => z)
  cases fl with
  | ret u =>
    obtain ⟨v, σ', H', J', r', q'⟩ := z
    exact ⟨v, H', J'.os, J'.bare, J'.base, J'.hok, r', q'⟩
  | next =>
    obtain ⟨σ', H', J', q'⟩ := z
    exact ⟨.non, H', J'.os, J'.bare, J'.base, J'.hok, rfl, q'⟩
  | brk => obtain ⟨_, _, _, z⟩ := z; exact z.elim
  | cont => obtain ⟨_, _, _, z⟩ := z; exact z.elim
end
section
variable {X : Cx} {k : Nat} {f : Addr} {fd : FuncData} {ps : List Str} {sp : Sp} {x : Str} {p pos : Pos} {e : Expr} {es : List Expr} {t : TA}
theorem pe_callG (F : FnG X.prog X.w X.K X.mg X.base k f fd ps sp) (hg : X.A.guards = some []) (hr : Room k X.A) (gl : Gl X x) (hm : X.mg x = some (.ref f)) (hk : PySem.W.keepIn X.K (.ref f) = true) (hb : Binds X.K fd ps [])
    (ha : PA X (e :: es) t) (hdb : (x == ("__debug__" : Str)) = false := by decide) (he : starEach (e :: es) X.env = (false, eval e X.env) :: starEach es X.env := by rfl)
    (hpl : (backTo pos (starEach es X.env)).any (·.1) = false := by rfl) : PE X (.Call (.Name x p) (e :: es) [] pos) (tCall sp [] E0 t) := by
  constructor
  intro pins s σ H Q I h
  refine wpAny_Call_Name_kw (ld_glob I gl hm ?_ hdb)
  refine PySem.W.callWith_K (h₀ := X.base) I.ok.mod.kin hk ?_ he hpl
  refine thn (ha.run pos pins s σ H _ I h) ?_
  rintro us s1 ⟨vs, H1, I1, rv, q⟩
  rw [List.append_nil] at q
  have lv : (us ++ []).length = ps.length := by rw [List.append_nil, ← rv.length]; exact F.size _ _ _ q
  have bb := hb s1 us I1.kIn lv
  rw [List.append_nil] at bb
  refine ⟨I1.kIn, wpAny_call (codeAny_mono (F.does X.A X.stack s1 H1 _ us vs Q hg hr I1.env0 bb rv q) ?_)⟩
  intro res s2 z
  cases res with
  | error e => exact z.elim
  | ok fl =>
    cases fl with
    | ret u => exact I1.after z
    | next => exact z.elim
    | brk => exact z.elim
    | cont => exact z.elim
end
end GL

set_option maxRecDepth 100000
set_option maxHeartbeats 4000000
namespace GL
open PySem PySem.Spec PyProof.Rows L2
/-- where a law's call begins: an abstract heap that bears the script alone -/
structure Begin (P : Program) (w : World) (K : PySem.W.Frag) (mg : Str → Option Value) (s : Shared) (a : Addr) (ns : List Int) (H : Hp) : Prop where
  only : Only H
  seq : SqL K H a (ns.map V.int)
  ok : HOk P w H s.heap
  at_ : ∀ b u, H b = some u → b = a ∧ K.lookup a = none
section
variable {P : Program} {w : World} {K : PySem.W.Frag} {mg mb : Str → Option Value} {k : Nat} {fa a : Addr} {fd : FuncData} {x : Str} {sp : Sp} {s : Shared} {vs : List Value} {ns : List Int}
theorem begin_of (KX : K.In s.heap) (ha : s.heap.get? a = some { cls := .type "list", data := .seq vs.toArray }) (hi : IntsAre vs ns) (hl : ns.length ≤ sizeLine) : ∃ H, Begin P w K mg s a ns H := by
  have rv := vals_ints hi
  by_cases hk : K.lookup a = none
  · let H0 : Hp := upd (fun _ => none) a (.frz { cls := .type "list", data := .seq vs.toArray } (.lst (ns.map V.int)))
    have h0 : ∀ b u, H0 b = some u → b = a := fun b u z => Classical.byContradiction fun nb => by
      have z' : (none : Option HO) = some u := (upd_ne nb).symm.trans z
      cases z'
    refine ⟨H0, fun b => ?_, .inl (.inr ⟨_, upd_same⟩), fun b u z => ?_, fun b u z => ⟨h0 b u z, hk⟩⟩
    · by_cases nb : b = a
      · subst nb; exact .inr ⟨_, _, upd_same⟩
      · exact .inl (upd_ne nb)
    · have eb := h0 b u z
      subst eb
      have eu := Option.some.inj (upd_same.symm.trans z)
      subst eu
      exact ⟨ha, by rw [List.length_map]; exact hl, vs, _, rv, ha⟩
  · obtain ⟨o, ho⟩ := Option.ne_none_iff_exists'.mp hk
    have eo := Option.some.inj ((KX a o ho).symm.trans ha)
    subst eo
    refine ⟨fun _ => none, fun _ => .inl rfl, .inr ⟨_, vs.toArray, _, ho, rfl, rfl, rfl, ?_, rv⟩, fun b u z => (nomatch z), fun b u z => (nomatch z)⟩
    rw [List.size_toArray, hi.length]
    exact hl
theorem lawG (KX : K.In s.heap) (hns : s.heap.Ns mainGlobals mg) (hb : s.heap.Ns builtinsNs mb) (hbb : ∀ y : Str, y ≠ "__name__" → mb y = bootBuiltins y) (lim : s.heap.NoLimit) (hg : s.gens = #[])
    (ha : s.heap.get? a = some { cls := .type "list", data := .seq vs.toArray }) (hi : IntsAre vs ns) (hl : ns.length ≤ sizeLine) (hr : Room k callerA)
    (F : ∀ base : Heap, K.In base → base.Ns mainGlobals mg → FnG P w K mg base k fa fd [x] sp) (bnd : ∀ (s : Shared) (u : Value), BindsTo s fd ⟨[u], []⟩ [(x, u)])
    (hsp : ∀ H : Hp, Only H → SqL K H a (ns.map V.int) → sp [.ref a] H (fun v _ => v = .bl true) E0) :
    codeAny (model P w) callerA (.call (.ref fa) ⟨[.ref a], []⟩) (fun r s' => r = .ok (.ret (.bool true)) ∧ OldK s.heap s'.heap ∧ s'.os = s.os ∧ AllBare s'.gens) s := by
  obtain ⟨H, B⟩ := begin_of (P := P) (w := w) (mg := mg) KX ha hi hl
  have bare : ∀ b o, K.lookup b = some o → H b = none := fun b o z => by
    cases e : H b with
    | none => rfl
    | some u =>
      obtain ⟨rfl, n⟩ := B.at_ b u e
      rw [n] at z
      cases z
  have nsD : ∀ {b : Addr} {m : Str → Option Value}, s.heap.Ns b m → (hidT s.heap H).Ns b m := fun {b m} z => by
    obtain ⟨o, es, ep, e1, e2, r⟩ := z
    refine ⟨o, es, ep, hidT_get e1 ?_, e2, r⟩
    cases e : H b with
    | none => rfl
    | some u =>
      obtain ⟨rfl, _⟩ := B.at_ b u e
      have eo := Option.some.inj (e1.symm.trans ha)
      rw [eo] at e2
      exact nomatch e2
  have inK : K.In (hidT s.heap H) := fun b o z => hidT_get (KX b o z) (bare b o z)
  have md : Mod K mg (hidT s.heap H) := by
    refine ⟨inK, nsD hns, ⟨mb, nsD hb, hbb⟩, ?_⟩
    obtain ⟨m, y1, y2⟩ := lim
    exact ⟨m, nsD y1, y2⟩
  have env : Env0 P w K mg (hidT s.heap H) callerA [] s H :=
    { frames := rfl, mod := md, bs := fun b o z => of_hidT z, bsz := Nat.le_of_eq (hidT_size _ _), funs := trivial, frf := fun b (z : b ∈ ([] : List Addr)) => (nomatch z), hok := B.ok, bare := .of_eq hg }
  refine codeAny_mono ((F _ inK (nsD hns)).does callerA [] s H _ [.ref a] [.ref a] _ rfl hr env (bnd s (.ref a)) (.cons rfl .nil) (hsp H B.only B.seq)) ?_
  intro r s' z
  cases r with
  | error e => exact z.elim
  | ok fl =>
    cases fl with
    | next => exact z.elim
    | brk => exact z.elim
    | cont => exact z.elim
    | ret u =>
      obtain ⟨v, H', os, bg, un, ok', rv, q⟩ := z
      have q : v = .bl true := q
      subst q
      obtain rfl : u = Value.bool true := rv
      refine ⟨rfl, OldK.of_keep fun b o e => ?_, os, bg⟩
      rcases B.only b with n | ⟨ob, xs, n⟩
      · exact un.keep b o e n (fun (y : b ∈ ([] : List Addr)) => (nomatch y)) (fun (y : b ∈ ([] : List Addr)) => (nomatch y))
      · have e1 := (B.ok b _ n).1
        have e2 := (ok' b _ (un.frzs b ob _ n)).1
        rw [e2, ← e1, e]
theorem walkG {l : PySem.W.OpenLaw} {n : Nat} {q : Program} {loose : List Str} {XP : (Str → Option Value) → Heap → Prop} {YP : World → Heap → Prop} {d : DefRec} {K : Params → PySem.W.Frag} {sp : PySem.W.Frag → Sp}
    (hn : l.most = some n) (hn2 : n ≤ sizeLine) (hdf : d.params.defaults = []) (hr : Room k callerA) (hY : ∀ (w : World) (h : Heap), YP w h → (K w.params).In h)
    (F : ∀ (w : World) (mg : Str → Option Value) (fa : Addr) (h : Heap), (K w.params).In h → h.Ns mainGlobals mg → mg d.name = some (.ref fa) →
      ∃ fd : FuncData, (∀ (s : Shared) (u : Value), BindsTo s fd ⟨[u], []⟩ [(x, u)]) ∧ ∀ base : Heap, (K w.params).In base → base.Ns mainGlobals mg → FnG l.prog w (K w.params) mg base k fa fd [x] (sp (K w.params)))
    (hsp : ∀ (K : PySem.W.Frag) (H : Hp) (a : Addr) (ns : List Int), ns.length ≤ n → Only H → SqL K H a (ns.map V.int) → sp K [.ref a] H (fun v _ => v = .bl true) E0) :
    PySem.W.WalkO q loose XP YP l.row.toRowW d [] (fun f vs => PySem.call f vs) := by
  refine Att.attach_call hn hdf ?_
  intro w s₀ s₁ mg mb fa o pm cd doc a vs ns G Y ho hd hcd hmg hobj hints hlen hg
  obtain ⟨fd, hb, hF⟩ := F w mg fa _ (hY w _ Y) G.T.g hmg
  exact lawG (hY w _ Y) G.T.g G.T.b G.T.builtins G.T.nolimit hg hobj hints (Nat.le_trans hlen hn2) hr hF hb fun H h1 h2 => hsp _ H a ns hlen h1 h2
end
end GL

set_option maxRecDepth 100000
set_option maxHeartbeats 4000000
/-! for i, x in enumerate(t), t a tuple -/
namespace GL
open PySem PySem.Spec PyProof.Rows L2
/-- enumerate.__new__ of whatever can be iterated over, counted from 0 -/
theorem enumNew {v : Value} {o : Obj} {H : Heap → Prop} (B : Begins v o H) :
    Meets (Builtin.«enumerate.__new__» ⟨[.type "enumerate", v], []⟩) (fun _ R s => H s.heap ∧
      R (.ok (.ret (.ref (s.heap.push o).objs.size))) { s with heap := (s.heap.push o).push { cls := .type "enumerate", data := .fields #[.none, .bool false, .ref s.heap.objs.size, rawInt 0, .none, .none] } }) :=
  .of_wp fun prog w A R s h => by
    obtain ⟨hp, gs, dr, tk, os⟩ := s
    obtain ⟨hH, hR⟩ := h
    have hsub := sub_enumerate
    have it0 : ∀ {A2 : Around} {E : Value → Shared → Prop} {Q : Value → Shared → Prop}, Q (.ref hp.objs.size) ⟨hp.push o, gs, dr, tk, os⟩ → wpAny (model prog w) A2 (pyIter v) Q E ⟨hp, gs, dr, tk, os⟩ :=
      fun z => B.iter prog w _ _ ⟨hp, gs, dr, tk, os⟩ _ hH z
    wp_walk using it0
    refine wpAny_stack_any fun _ => wpAny_pure ?_
    split
    · rename_i c _ _ _ _ _
      by_cases hc : (c == Value.type "enumerate") = true
      all_goals simp only [hc]
      all_goals wp_walk using it0
      all_goals exact ⟨_, rfl, hR⟩
    · wp_walk using it0
      exact ⟨_, rfl, hR⟩
theorem callEnum {prog : Program} {w : World} {A : Around} {E : Value → Shared → Prop} {s : Shared} {v : Value} {o : Obj} {H : Heap → Prop} {Q : Value → Shared → Prop} (B : Begins v o H) (h1 : H s.heap)
    (h : ∀ h', IsEnum h' (s.heap.objs.size + 1) s.heap.objs.size 0 .none → h'.get? s.heap.objs.size = some o → (∀ b ob, s.heap.get? b = some ob → h'.get? b = some ob) → Q (.ref (s.heap.objs.size + 1)) { s with heap := h' }) :
    wpAny (model prog w) A (call (.type "enumerate") [v]) Q E s := by
  refine callType_new F.called_enumerate (by decide) (F.typeCall_enumerate_1 _) (F.newCall_enumerate_1 _) (fun obj => F.args_object_init_2 obj _) F.entry_enumerate_new (enumNew B) ⟨h1, ?_⟩
  have n1 : (s.heap.push o).objs.size = s.heap.objs.size + 1 := Heap.size_push ..
  have he : IsEnum ((s.heap.push o).push { cls := .type "enumerate", data := .fields #[.none, .bool false, .ref s.heap.objs.size, rawInt 0, .none, .none] }) (s.heap.objs.size + 1) s.heap.objs.size 0 .none := by
    have z := Heap.get?_push_size (s.heap.push o) (o := { cls := .type "enumerate", data := .fields #[.none, .bool false, .ref s.heap.objs.size, rawInt 0, .none, .none] }) rfl
    rwa [n1] at z
  show _ ∧ _
  rw [n1]
  exact ⟨⟨_, he, rfl⟩, h _ he (Heap.get?_push_of_some _ (Heap.get?_push_size _ B.free)) fun b ob z => Heap.get?_push_of_some _ (Heap.get?_push_of_some _ z)⟩
/-- the tuple at a as it stands at each turn, the items in new pairs with their numbers -/
def ItE (K : PySem.W.Frag) (a : Addr) : It :=
  ⟨fun i H => ∃ (xs : List V) (x : V), SqT K H a xs ∧ xs[i]? = some x,
   fun i H v H' => ∃ (T : Addr) (x : V), v = .ref T ∧ H T = none ∧ H' = upd H T (.tup [.int (i : Nat), x]) ∧ ∀ xs, SqT K H a xs → xs[i]? = some x,
   fun i H => ∃ xs : List V, SqT K H a xs ∧ i = xs.length⟩
theorem isT_of {h : Heap} {a : Addr} {its : Array Value} (t : IsTup h a its) : h.IsTuple a its := t
theorem apartT {h : Heap} {a e it : Addr} {its : Array Value} {k : Int} {old : Value} {i : Nat} (t : IsTup h a its) (he : IsEnum h e it k old) (hi : h.IsTupleIter it a i) : a ≠ it ∧ e ∉ [it, a] ∧ e ≠ it := by
  obtain ⟨o, ho, hc, _⟩ := t
  obtain ⟨o2, ho2, hc2, _⟩ := hi
  have n1 : a ≠ it := fun z => by
    subst z
    rw [ho] at ho2
    cases ho2
    rw [hc] at hc2
    exact absurd hc2 (by decide +kernel)
  have n2 : e ≠ it := fun z => by
    subst z
    have z2 := Option.some.inj (ho2.symm.trans he)
    rw [z2] at hc2
    exact absurd (show Value.type "enumerate" = Value.type "tuple_iterator" from hc2) (by decide +kernel)
  have n3 : e ≠ a := fun z => by
    subst z
    have z2 := Option.some.inj (ho.symm.trans he)
    rw [z2] at hc
    exact absurd (show Value.type "enumerate" = Value.type "tuple" from hc) (by decide +kernel)
  exact ⟨n1, by simp [n2, n3], n2⟩
theorem turn_enumT {P : Program} {w : World} {K : PySem.W.Frag} {elts : List Expr} {kk : Nat} {tpos : Pos} (a e it : Addr) :
    Turn P w K (.Tuple elts kk tpos) (ItE K a) [e, it] e (fun i h => (∃ old, IsEnum h e it ((i : Nat) : Int) old) ∧ h.IsTupleIter it a i) where
  mem := by simp
  obj := by
    rintro i h ⟨⟨old, he⟩, o, ho, hc, hd⟩ b hb
    rcases List.mem_cons.mp hb with rfl | hb
    · exact ⟨_, he, fun v z => nomatch z⟩
    · obtain rfl := List.mem_singleton.mp hb
      exact ⟨o, ho, fun v z => by rw [hd] at z; cases z⟩
  keep := by
    rintro i h h' ⟨⟨old, he⟩, hi⟩ k
    exact ⟨⟨old, k e (by simp) _ he⟩, hi.at fun o z => k it (by simp) o z⟩
  item := by
    rintro X rfl rfl rfl hc i pins s σ H E I hf ⟨⟨old, he⟩, hi⟩ ⟨xs, x, hq, hx⟩
    obtain ⟨its, rv, t, hz⟩ := I.tuple hq
    obtain ⟨u, hu, ru⟩ := rv.get hx
    obtain ⟨n1, n2, n3⟩ := apartT t he hi
    have lt : i < its.toArray.size := by
      rw [List.size_toArray]
      exact (List.getElem?_eq_some_iff.mp hu).1
    have hh : X.A.in1.handled = none := I.ok.hd hc
    have le : e < s.heap.objs.size := Heap.lt_size he
    refine wpAny_pyNext_enum_itemD (Draws.tuple (prog := X.prog) (w := X.w) hh it a n1 its.toArray) he ⟨hi, isT_of t⟩ lt n3 n2 ?_
    rintro y h1 tk hy ho ⟨hi1, _⟩ hT hsz hk
    have ey : y = u := by
      have z : its[i]? = some y := by simpa using hy
      exact Option.some.inj (z.symm.trans hu)
    subst ey
    refine ⟨_, rfl, ?_⟩
    refine wpAny_letOwnedTupleGo_enum (s := { s with heap := h1, toks := tk + 1 }) ho ?_
    intro h2 he2 sb
    have hT2 : h2.get? s.heap.objs.size = some { cls := .type "tuple", data := .seq #[.int i tk, y] } := (sb.2 _ (Nat.ne_of_gt le)).trans hT
    have new : ObjOk X.prog X.w (upd H s.heap.objs.size (.tup [.int (i : Nat), x])) h2 s.heap.objs.size (.tup [.int (i : Nat), x]) := by
      refine ⟨by show 2 ≤ sizeLine; decide, [.int i tk, y], .cons ⟨_, rfl⟩ (.cons ru .nil), _, hT2, rfl, _, rfl⟩
    have J : Inv X pins σ (upd H s.heap.objs.size (.tup [.int (i : Nat), x])) { s with heap := h2, toks := tk + 1 } := by
      refine I.turnedNew (ch := [e, it]) (fun b ob hb z => ?_) hf (Nat.le_refl _) new
      have b1 : b ≠ e := fun q => hb (by simp [q])
      have b2 : b ≠ it := fun q => hb (by simp [q])
      exact (sb.2 b b1).trans (hk b ob b1 b2 z)
    refine ⟨.ref s.heap.objs.size, _, J, rfl, ⟨_, x, rfl, I.hok.fresh (Nat.le_refl _), rfl, fun ys hy => by rw [I.tuple_inj hy hq]; exact hx⟩, ⟨⟨y, ?_⟩, hi1.at fun o z => (sb.2 it (Ne.symm n3)).trans z⟩, fun b hb => ?_⟩
    · have z : ((i + 1 : Nat) : Int) = (i : Int) + 1 := by omega
      rw [z]
      exact he2
    · have lb : b < s.heap.objs.size := by
        rcases List.mem_cons.mp hb with rfl | hb
        · exact le
        · obtain rfl := List.mem_singleton.mp hb
          obtain ⟨_, z, _⟩ := hi
          exact Heap.lt_size z
      rw [upd_ne (Nat.ne_of_lt lb)]
      exact (hf b hb).1
  done := by
    rintro X rfl rfl rfl hc i pins s σ H E I hf ⟨⟨old, he⟩, hi⟩ ⟨xs, hq, hx⟩
    obtain ⟨its, rv, t, hz⟩ := I.tuple hq
    obtain ⟨n1, n2, n3⟩ := apartT t he hi
    have ei : i = its.toArray.size := by rw [List.size_toArray, ← rv.length]; exact hx
    subst ei
    obtain ⟨f0, f1, f2, f3, f4, f5⟩ := hf it (by simp)
    refine wpAny_pyNext_enum_endD (Draws.tuple (prog := X.prog) (w := X.w) (A := X.A.in1) (I.ok.hd hc) it a n1 its.toArray) he ⟨hi, isT_of t⟩ ?_
    exact fun h1 eb => ⟨rfl, I.turned (t' := s.toks) (fun b o hb z => eb b o hb z) f0 f1 f3 f4 f5⟩
  self := by
    rintro A i s Q E ⟨⟨_, he⟩, _⟩ h
    exact wpAny_pyIter_enum he h
def iEnumT (K : PySem.W.Frag) (ta : TA) : TI := fun σ H R => ta σ H fun vs H1 => ∃ a xs, vs = [.ref a] ∧ SqT K H1 a xs ∧ R (ItE K a) H1
theorem pi_enumT {X : Cx} {e : Expr} {ta : TA} {p pos tpos : Pos} {elts : List Expr} {kk : Nat} (hg : Gl X "enumerate") (hm : X.mg "enumerate" = none) (ha : PA X [e] ta) (hs : starEach [e] X.env = [(false, eval e X.env)] := by rfl) :
    PI X (.Tuple elts kk tpos) (.Call (.Name "enumerate" p) [e] [] pos) (iEnumT X.K ta) := by
  constructor
  intro pins s σ H R I h
  refine Call_ (ld_blt I hg hm boot_enumerate (PyProof.Rows.callWith_type1 ?_ hs rfl))
  refine thn (ha.run pos pins s σ H _ I h) ?_
  rintro us s1 ⟨vs, H1, I1, r1, a, xs, rfl, hq, q⟩
  obtain ⟨u, rfl, ru⟩ := vals1 r1
  obtain rfl : u = Value.ref a := ru
  obtain ⟨its, rv, t, hz⟩ := I1.tuple hq
  refine callEnum (begins_tuple a its.toArray) (isT_of t) ?_
  intro h2 he hi k
  refine wpAny_pyIter_enum he ?_
  have J : Inv X pins σ H1 { s1 with heap := h2 } := I1.kept (t' := s1.toks) k
  refine ⟨s1.heap.objs.size + 1, [s1.heap.objs.size + 1, s1.heap.objs.size], _, _, H1, rfl, J, turn_enumT a (s1.heap.objs.size + 1) s1.heap.objs.size, ⟨⟨.none, he⟩, ⟨_, hi, rfl, rfl⟩⟩, fun b hb => ?_, q⟩
  have lb : s1.heap.objs.size ≤ b := by
    rcases List.mem_cons.mp hb with rfl | hb
    · exact Nat.le_succ _
    · obtain rfl := List.mem_singleton.mp hb
      exact Nat.le_refl _
  exact I1.fpOk lb (I1.hok.fresh lb)
theorem walk_enumT {K : PySem.W.Frag} {a : Addr} {xs : List V} : Walk (ItE K a) xs.length (fun H => SqT K H a xs) (YPair (fun i => some (.int (i : Nat))) (fun i => xs[i]?)) := by
  constructor
  · intro i H hi q
    exact ⟨xs, xs[i], q, by simp [hi]⟩
  · exact fun H q => ⟨xs, q, rfl⟩
  · rintro i H v H' hi q ⟨T, x, h1, h2, h3, h4⟩
    exact ⟨T, .int (i : Nat), x, h1, h2, h3, rfl, h4 xs q⟩
end GL

set_option maxRecDepth 100000
set_option maxHeartbeats 4000000
namespace My
open PySem PySem.Spec PyProof.Rows L2 GL
def topS (i : Nat) : Stmt := PySem.Challenge.pw_fourstrokes_k01_boxes_judged_and_kept.main.body.getD i (.Pass ⟨0, 0, 0, 0⟩)
abbrev sPool : Stmt := topS 13
abbrev sDraw : Stmt := topS 14
abbrev sDeep : Stmt := topS 15
/-! ### the pool: a list of two ints and of a list of ints -/
structure PoolAt (H : Hp) (p c : Addr) : Prop where
  ex : ∃ (s t : Int) (ns : List Int), H p = some (.lst [.int s, .int t, .ref c]) ∧ H c = some (.lst (ns.map V.int)) ∧ ns.length ≤ 63
theorem PoolAt.ne {H : Hp} {p c : Addr} (h : PoolAt H p c) : p ≠ c := by
  obtain ⟨s, t, ns, h1, h2, _⟩ := h.ex
  rintro rfl
  rw [h1] at h2
  cases ns with
  | nil => cases h2
  | cons a r =>
    cases r with
    | nil => cases h2
    | cons b r =>
      cases r with
      | nil => cases h2
      | cons c r => cases h2
def hid (H : Hp) (p c : Addr) : Hp := fun b => if b = p ∨ b = c then none else H b
theorem hid_at {H : Hp} {p c b : Addr} {o : HO} : hid H p c b = some o ↔ (b ≠ p ∧ b ≠ c) ∧ H b = some o := by
  unfold hid
  by_cases h : b = p ∨ b = c
  · rw [if_pos h]
    constructor
    · intro z; cases z
    · rintro ⟨⟨h1, h2⟩, _⟩; exact (h.elim h1 h2).elim
  · rw [if_neg h]
    exact ⟨fun z => ⟨⟨fun e => h (.inl e), fun e => h (.inr e)⟩, z⟩, fun z => z.2⟩
theorem hid_le {H : Hp} {p c : Addr} : Same (hid H p c) H := fun b o z => (hid_at.mp z).2
theorem hid_mono {H H' : Hp} {p c : Addr} (e : Same H H') : Same (hid H p c) (hid H' p c) := fun b o z => hid_at.mpr ⟨(hid_at.mp z).1, e _ _ (hid_at.mp z).2⟩
theorem hid_upd {H : Hp} {p c x : Addr} {o : HO} (h : x = p ∨ x = c) : Same (hid H p c) (hid (upd H x o) p c) := fun b u z => by
  obtain ⟨⟨n1, n2⟩, e⟩ := hid_at.mp z
  refine hid_at.mpr ⟨⟨n1, n2⟩, ?_⟩
  rw [upd_ne (fun q => by subst q; exact (h.elim n1 n2))]
  exact e
theorem same_new {H : Hp} {x : Addr} {o : HO} (h : H x = none) : Same H (upd H x o) := fun b u z => by
  rw [upd_ne (ne_of_none z h)]
  exact z
theorem PoolAt.same {H H' : Hp} {p c : Addr} (h : PoolAt H p c) (e : Same H H') : PoolAt H' p c := by
  obtain ⟨s, t, ns, h1, h2, h3⟩ := h.ex
  exact ⟨s, t, ns, e _ _ h1, e _ _ h2, h3⟩
theorem cutV_int (ns : List Int) (lo hi : Option Int) : ∃ ms : List Int, cutV (ns.map V.int) lo hi = ms.map V.int ∧ ms.length ≤ ns.length := by
  unfold cutV
  rw [List.length_map, ← List.map_drop, ← List.map_take]
  exact ⟨_, rfl, by rw [List.length_take, List.length_drop]; omega⟩
theorem item_int {ns : List Int} {i : Nat} {y : V} (h : (ns.map V.int)[i]? = some y) : ∃ z, ns[i]? = some z ∧ y = .int z := by
  rw [List.getElem?_map] at h
  cases e : ns[i]? with
  | none => rw [e] at h; cases h
  | some z => rw [e] at h; exact ⟨z, rfl, (Option.some.inj h).symm⟩
structure Nm (mg : Str → Option Value) : Prop where
  int : mg "int" = none
  sum : mg "sum" = none
  len : mg "len" = none
  abs : mg "abs" = none
  range : mg "range" = none
  isinstance : mg "isinstance" = none
  bool : mg "bool" = none
  tuple : mg "tuple" = none
  list : mg "list" = none
  all : mg "all" = none
  enumerate : mg "enumerate" = none
  repr : mg "repr" = none
  valueError : mg "ValueError" = none
def spPool (K : PySem.W.Frag) : Sp := fun vs H Q _ => ∃ (a : Addr) (ns : List Int), vs = [.ref a] ∧ SqL K H a (ns.map V.int) ∧ ns.length ≤ 63 ∧
  ∀ (p c : Addr) (H' : Hp), Same H H' → H p = none → H c = none → PoolAt H' p c → Q (.ref p) H'
section
variable {P : Program} {w : World} {K : PySem.W.Frag} {mg : Str → Option Value} {base : Heap}
theorem scPool : FnScope ["script", "seed", "cell"] ["script"] (defScope sPool) := ⟨rfl, rfl, rfl, by decide +kernel, rfl, by decide +kernel, by decide +kernel⟩
theorem ok_pool {f : Addr} {fd : FuncData} (F : Fun K "_law_pool" "_law_pool" sPool f fd) (T : Nm mg) : FnOk P w K mg base CX0 1 f fd ["script"] (spPool K) := by
  refine F.ok scPool (fun vs H Q E h => ?_) (fun cdv A outer s H vs Q E hr h => ?_)
  · obtain ⟨a, ns, rfl, _⟩ := h
    rfl
  · obtain ⟨a, ns, rfl, hS, hl, k⟩ := h
    have hu := hu_of hr
    refine ⟨_, pss_cons (ps_set (i := 1) scPool.nd rfl (.inl rfl) (pe_op op_add (pe_op op_add (pe_op op_mod (pe_callTy call_int1 (by rfl) T.int (by decide +kernel) (pa_cons (pe_callB (cr_sum rfl) (by rfl) T.sum (by decide +kernel) (pa_cons (pe_slice sl_list (pv 0) po_none (po_some pe_int)) pa_nil)) pa_nil)) pe_int)
          (pe_callB call_len_seq (by rfl) T.len PySem.boot_len (pa_cons (pv 0) pa_nil))) pe_int))
      (pss_cons (ps_for PassesOwn.never rfl (pi_list (pe_slice sl_list (pv 0) po_none (po_some pe_int))) (pg_name (i := 2) scPool.nd rfl (.inl rfl))
        (pss_one (ps_set (i := 1) scPool.nd rfl (.inl rfl) (pe_op op_mod (pe_callTy call_int1 (by rfl) T.int (by decide +kernel) (pa_cons (pe_op op_add (pe_op op_add (pe_op op_mul (pv 1) pe_int)
          (pe_op op_mod (pe_callTy call_int1 (by rfl) T.int (by decide +kernel) (pa_cons (pv 2) pa_nil)) pe_int)) pe_int) pa_nil)) pe_int))))
      (pss_one (ps_ret (pe_lst (pa_cons (pv 1) (pa_cons pe_int (pa_cons
        (pe_lc (own := [("cell", 2)]) (g := gName 2) (by rfl) scPool.nd (pi_list (pe_slice sl_list (pv 0) po_none (po_some pe_int))) (blkOk_by (N := ["script", "seed", "cell"]) (sc := defScope sPool) (by decide +kernel))
          (fun _ _ _ _ _ => pg_name (i := 2) scPool.nd rfl (Or.inl rfl))
          (fun _ _ _ _ _ => pts_one (pt_cmpR op_ge (pe_callB call_abs (by rfl) T.abs (by decide +kernel) (pa_cons (pv 2) pa_nil)) (pe_op op_pow pe_int pe_int) (nomark _)))
          (fun _ _ _ _ _ => pe_callB call_abs (by rfl) T.abs (by decide +kernel) (pa_cons (pv 2) pa_nil))) pa_nil))))))), ?_⟩
    obtain ⟨m1, e1, _⟩ := cutV_int ns none (some 1)
    refine ⟨_, rfl, _, rfl, a, _, rfl, hS, fun q1 n1 => ?_⟩
    have s1 : Same H (upd H q1 (.lst (cutV (ns.map V.int) none (some 1)))) := same_new n1
    refine ⟨q1, m1, rfl, SqL.of (by rw [upd_same, e1]), .inl ⟨_, rfl, _, _, rfl, rfl, (by show (0 : Int) < 1000003; decide), _, rfl, a, _, rfl, .inl (s1.seq hS), _, _, rfl, rfl, _, _, rfl, rfl, ?_⟩⟩
    obtain ⟨m2, e2, l2⟩ := cutV_int ns none (some 63)
    refine ⟨_, rfl, _, rfl, a, _, rfl, s1.seq hS, fun q2 n2 => ?_⟩
    have s2 : Same H (upd (upd H q1 (.lst (cutV (ns.map V.int) none (some 1)))) q2 (.lst (cutV (ns.map V.int) none (some 63)))) := s1.trans (same_new n2)
    refine ⟨q2, rfl, ⟨_, SqL.of (by rw [upd_same, e2])⟩, for_list (K := K) (a := q2) (xs := m2.map V.int) (fun i σ H' => ∃ (z : Int) (v : Option V), σ = [some (.ref a), some (.int z), v] ∧ Same H H' ∧ H' q2 = some (.lst (m2.map V.int)))
      ⟨_, _, rfl, s2, by rw [upd_same, e2]⟩ (fun i σ H' _ ⟨_, _, _, _, z⟩ => SqL.of z) ?_ ?_⟩
    · rintro i y σ H' hi ⟨z, v, rfl, s3, hq⟩
      obtain ⟨u, _, rfl⟩ := item_int hi
      refine ⟨_, rfl, _, _, rfl, rfl, .inr (by constructor <;> decide), _, rfl, .inl ⟨_, rfl, _, _, rfl, rfl, (by show (0 : Int) < 2147483629; decide), _, _, rfl, rfl, _, _, rfl, rfl, .inl ⟨_, rfl, _, _, rfl, rfl, (by show (0 : Int) < 2147483647; decide), ?_⟩⟩⟩
      exact ⟨_, _, rfl, s3, hq⟩
    · rintro σ H' ⟨z, v, rfl, s3, hq⟩
      obtain ⟨m3, e3, l3⟩ := cutV_int ns none (some 63)
      refine ⟨_, rfl, _, rfl, _, rfl, a, _, rfl, s3.seq hS, fun q3 n3 => ?_⟩
      have s4 : Same H (upd H' q3 (.lst (cutV (ns.map V.int) none (some 63)))) := s3.trans (same_new n3)
      refine ⟨q3, rfl, ⟨_, SqL.of (by rw [upd_same, e3])⟩, fun D nD => ?_⟩
      have h0 : H D = none := s4.free nD
      have d3 : q3 ≠ D := fun z => by
        rw [← z, upd_same] at nD
        cases nD
      refine lc_list (K := K) (a := q3) (xs := m3.map V.int) (fun i H2 => Same H H2 ∧ H2 q3 = some (.lst (m3.map V.int)) ∧ ∃ acc : List Int, H2 D = some (.lst (acc.map V.int)) ∧ acc.length ≤ i)
        ⟨s4.trans (same_new nD), by rw [upd_ne d3, upd_same, e3], [], upd_same, Nat.le_refl _⟩ (fun i H2 _ z => SqL.of z.2.1) ?_ ?_
      · rintro i y H2 hi ⟨t1, t2, acc, t3, t4⟩
        obtain ⟨u, hu, rfl⟩ := item_int hi
        have li : i < 63 := by
          have z := (List.getElem?_eq_some_iff.mp hu).1
          omega
        refine ⟨rfl, _, rfl, _, rfl, _, _, rfl, rfl, ⟨by decide, by decide, by decide⟩, _, _, rfl, rfl, _, rfl, ?_⟩
        refine ite2 (fun _ => ?_) (fun _ => ?_)
        · refine ⟨_, rfl, _, rfl, _, t3, small1000 (by rw [List.length_map]; omega), ?_⟩
          refine ⟨fun b o e => ?_, by rw [upd_ne d3]; exact t2, acc ++ [_], by rw [upd_same, List.map_append]; rfl, by rw [List.length_append, List.length_singleton]; omega⟩
          rw [upd_ne (ne_of_none e h0)]
          exact t1 b o e
        · exact ⟨t1, t2, acc, t3, Nat.le_succ_of_le t4⟩
      · rintro H2 ⟨t1, t2, acc, t3, t4⟩
        rw [List.length_map] at t4
        refine ⟨by show 3 ≤ sizeLine; decide, fun p np => ?_⟩
        have dp : D ≠ p := ne_of_none t3 np
        refine k p D _ (t1.trans (same_new np)) (t1.free np) h0 ⟨_, 0, acc, upd_same, by rw [upd_ne dp]; exact t3, by omega⟩
end
end My

set_option maxRecDepth 100000
set_option maxHeartbeats 4000000
namespace My
open PySem PySem.Spec PyProof.Rows L2 GL
theorem yes_of {b : Bool} {A B : Prop} (h : b = true) (a : A) : if b = true then A else B := by rw [if_pos h]; exact a
theorem no_of {b : Bool} {A B : Prop} (h : b = false) (a : B) : if b = true then A else B := by rw [h, if_neg Bool.false_ne_true]; exact a
theorem at0 (n : Int) (r : List Int) : atI ((n :: r).map V.int) 0 = some (.int n) := atI_nat (j := 0) rfl
theorem ix0 (n : Int) (r : List Int) : ixN ((n :: r).map V.int).length 0 = some 0 := by
  have z : (0 : Int) < (((n :: r).map V.int).length : Nat) := by rw [List.length_map, List.length_cons]; omega
  unfold ixN
  rw [if_pos (Int.le_refl 0), if_pos z]
  rfl
/-- a draw below m: the pool turns, nothing else does -/
def spDraw : Sp := fun vs H Q _ => ∃ (p c : Addr) (m : Int), vs = [.ref p, .int m] ∧ PoolAt H p c ∧ 0 < m ∧ m < 1073741824 ∧
  ∀ (d : Int) (H' : Hp), 0 ≤ d → d < m → PoolAt H' p c → Same (hid H p c) (hid H' p c) → Q (.int d) H'
section
variable {P : Program} {w : World} {K : PySem.W.Frag} {mg : Str → Option Value} {base : Heap}
theorem scDraw : FnScope ["pool", "many", "cells", "digit", "mixed"] ["pool", "many"] (defScope sDraw) := ⟨rfl, rfl, rfl, by decide +kernel, rfl, by decide +kernel, by decide +kernel⟩
theorem ok_draw {f : Addr} {fd : FuncData} (F : Fun K "_law_draw" "_law_draw" sDraw f fd) (T : Nm mg) : FnOk P w K mg base CX0 1 f fd ["pool", "many"] spDraw := by
  refine F.ok scDraw (fun vs H Q E h => ?_) (fun cdv A outer s H vs Q E hr h => ?_)
  · obtain ⟨p, c, m, rfl, _⟩ := h
    rfl
  · obtain ⟨p, c, m, rfl, hp, m0, m1, k⟩ := h
    have npc := hp.ne
    obtain ⟨z, t, ns, h1, h2, h3⟩ := hp.ex
    refine ⟨_, pss_cons (ps_asg (pe_op op_add (pe_ix ix_list (pv 0) pe_int (fun _ _ => rfl)) pe_int) (pg_sub (pv 0) pe_int set_list))
      (pss_cons (ps_set (i := 2) scDraw.nd rfl (.inl rfl) (pe_ix ix_list (pv 0) pe_int (fun _ _ => rfl)))
      (pss_cons (ps_if (pt_cmpR op_gt (pe_callB call_len_seq (by rfl) T.len PySem.boot_len (pa_cons (pv 2) pa_nil)) pe_int (nomark _))
        (pss_cons (ps_set (i := 3) scDraw.nd rfl (.inl rfl) (pe_op op_mod (pe_callTy call_int1 (by rfl) T.int (by decide +kernel) (pa_cons (pe_ix ix_list (pv 2) pe_int (fun _ _ => rfl)) pa_nil)) (pv 1)))
        (pss_cons (ps_asg (pe_op op_fdivN (pe_callTy call_int1 (by rfl) T.int (by decide +kernel) (pa_cons (pe_ix ix_list (pv 2) pe_int (fun _ _ => rfl)) pa_nil)) (pv 1)) (pg_sub (pv 2) pe_int set_list))
        (pss_cons (ps_if (pt_cmpR op_eq (pe_ix ix_list (pv 2) pe_int (fun _ _ => rfl)) pe_int (nomark _))
          (pss_one (ps_expr (pe_bm PySem.F.plainAttrs_list PySem.F.slot_list_pop PySem.F.type_list_pop mt_popAt (pv 2) (pa_cons pe_int pa_nil)))) pss_nil)
        (pss_one (ps_ret (pv 3)))))) pss_nil)
      (pss_cons (ps_set (i := 4) scDraw.nd rfl (.inl rfl) (pe_op op_mod (pe_callTy call_int1 (by rfl) T.int (by decide +kernel) (pa_cons (pe_op op_mul (pe_op op_add (pe_ix ix_list (pv 0) pe_int (fun _ _ => rfl)) (pe_op op_mul pe_int (pe_ix ix_list (pv 0) pe_int (fun _ _ => rfl)))) pe_int) pa_nil)) pe_int))
      (pss_cons (ps_set (i := 4) scDraw.nd rfl (.inl rfl) (pe_op op_mod (pe_callTy call_int1 (by rfl) T.int (by decide +kernel) (pa_cons (pe_op op_mul (pv 4) (pe_op op_add (pe_op op_fdiv (pv 4) pe_int) pe_int)) pa_nil)) pe_int))
      (pss_cons (ps_set (i := 4) scDraw.nd rfl (.inl rfl) (pe_op op_mod (pe_callTy call_int1 (by rfl) T.int (by decide +kernel) (pa_cons (pe_op op_mul (pv 4) (pe_op op_add (pe_op op_fdiv (pv 4) pe_int) pe_int)) pa_nil)) pe_int))
      (pss_one (ps_ret (pe_op op_mod (pe_callTy call_int1 (by rfl) T.int (by decide +kernel) (pa_cons (pe_op op_fdiv (pv 4) pe_int) pa_nil)) (pv 1))))))))), ?_⟩
    -- pool[1] = pool[1] + 1
    refine ⟨_, rfl, p, _, _, _, rfl, rfl, SqL.of h1, rfl, _, _, rfl, rfl, _, rfl, p, _, _, 1, rfl, rfl, h1, rfl, ?_⟩
    have a1 : (upd H p (.lst ([V.int z, V.int t, V.ref c].set 1 (V.int (t + 1))))) p = some (.lst [.int z, .int (t + 1), .ref c]) := upd_same
    have a2 : (upd H p (.lst ([V.int z, V.int t, V.ref c].set 1 (V.int (t + 1))))) c = some (.lst (ns.map V.int)) := by rw [upd_ne npc.symm]; exact h2
    have a3 : Same (hid H p c) (hid (upd H p (.lst ([V.int z, V.int t, V.ref c].set 1 (V.int (t + 1))))) p c) := hid_upd (.inl rfl)
    revert a1 a2 a3
    generalize upd H p (.lst ([V.int z, V.int t, V.ref c].set 1 (V.int (t + 1)))) = H1
    intro a1 a2 a3
    refine ⟨_, rfl, p, _, _, _, rfl, rfl, SqL.of a1, rfl, ?_⟩
    refine ⟨_, rfl, c, _, rfl, .inl (SqL.of a2), _, _, rfl, rfl, _, rfl, ?_⟩
    cases ns with
    | nil =>
      refine no_of rfl ?_
      refine ⟨_, rfl, p, _, _, _, rfl, rfl, SqL.of a1, rfl, _, rfl, p, _, _, _, rfl, rfl, SqL.of a1, rfl, _, _, rfl, rfl, .inl (by constructor <;> decide), _, _, rfl, rfl, _, _, rfl, rfl, .inr (by constructor <;> decide), .inl ⟨_, rfl, _, _, rfl, rfl, (by show (0 : Int) < 2147483647; decide), ?_⟩⟩
      generalize hw : ((z + 7919 * (t + 1)) * 48271) % 2147483647 = w1
      have b1 : 0 ≤ w1 ∧ w1 < 2147483647 := by constructor <;> omega
      refine ⟨_, rfl, _, rfl, _, _, rfl, rfl, (by constructor <;> decide), _, _, rfl, rfl, _, _, rfl, rfl, .inl ⟨by omega, by omega⟩, .inl ⟨_, rfl, _, _, rfl, rfl, (by show (0 : Int) < 2147483647; decide), ?_⟩⟩
      generalize hw2 : (w1 * (w1 / 1009 + 69621)) % 2147483647 = w2
      have b2 : 0 ≤ w2 ∧ w2 < 2147483647 := by constructor <;> omega
      refine ⟨_, rfl, _, rfl, _, _, rfl, rfl, (by constructor <;> decide), _, _, rfl, rfl, _, _, rfl, rfl, .inl ⟨by omega, by omega⟩, .inl ⟨_, rfl, _, _, rfl, rfl, (by show (0 : Int) < 2147483399; decide), ?_⟩⟩
      refine ⟨_, rfl, _, _, rfl, rfl, (by constructor <;> decide), .inl ⟨_, rfl, _, rfl, _, _, rfl, rfl, m0, ?_⟩⟩
      exact k _ _ (Int.emod_nonneg _ (by omega)) (Int.emod_lt_of_pos _ m0) ⟨_, _, [], a1, a2, by simp⟩ a3
    | cons n r =>
      refine yes_of (by simp) ?_
      refine ⟨_, rfl, c, _, _, V.int n, rfl, rfl, SqL.of a2, at0 n r, .inl ⟨_, rfl, _, rfl, _, _, rfl, rfl, m0, ?_⟩⟩
      refine ⟨_, rfl, c, _, _, V.int n, rfl, rfl, SqL.of a2, at0 n r, .inl ⟨_, rfl, _, rfl, _, _, rfl, rfl, ⟨by omega, by omega⟩, _, rfl, c, _, _, 0, rfl, rfl, a2, ix0 n r, ?_⟩⟩
      have eset : ((n :: r).map V.int).set 0 (V.int (n.fdiv m)) = ((n.fdiv m) :: r).map V.int := rfl
      rw [eset]
      have c1 : (upd H1 c (.lst (((n.fdiv m) :: r).map V.int))) p = some (.lst [.int z, .int (t + 1), .ref c]) := by rw [upd_ne npc]; exact a1
      have c2 : (upd H1 c (.lst (((n.fdiv m) :: r).map V.int))) c = some (.lst (((n.fdiv m) :: r).map V.int)) := upd_same
      have c3 : Same (hid H p c) (hid (upd H1 c (.lst (((n.fdiv m) :: r).map V.int))) p c) := a3.trans (hid_upd (.inr rfl))
      revert c1 c2 c3
      generalize upd H1 c (.lst (((n.fdiv m) :: r).map V.int)) = H2
      intro c1 c2 c3
      refine ⟨_, rfl, c, _, _, V.int (n.fdiv m), rfl, rfl, SqL.of c2, at0 _ r, rfl, _, rfl, ?_⟩
      refine ite2 (fun _ => ?_) (fun _ => ?_)
      · refine ⟨_, rfl, .inl ⟨rfl, _, SqL.of c2⟩, c, _, 0, 0, V.int (n.fdiv m), rfl, rfl, c2, by decide, by decide, ?_, rfl, ?_⟩
        · exact seqIndex_of (k := 0) (Int.le_refl 0) (by rw [List.length_map, List.length_cons]; omega)
        refine ⟨_, rfl, k _ _ (Int.emod_nonneg _ (by omega)) (Int.emod_lt_of_pos _ m0) ⟨_, _, r, by rw [upd_ne npc]; exact c1, upd_same, by rw [List.length_cons] at h3; omega⟩ (c3.trans (hid_upd (.inr rfl)))⟩
      · exact ⟨_, rfl, k _ _ (Int.emod_nonneg _ (by omega)) (Int.emod_lt_of_pos _ m0) ⟨_, _, _, c1, c2, by rw [List.length_cons] at h3 ⊢; omega⟩ c3⟩
end
end My

set_option maxRecDepth 100000
set_option maxHeartbeats 4000000
namespace My
open PySem PySem.Spec PyProof.Rows L2 GL
abbrev sIsInteger : Stmt := topS 4
abbrev sIntFrom : Stmt := topS 5
abbrev sTupOf : Stmt := topS 6
abbrev sIs : Stmt := topS 16
abbrev sIsInt : Stmt := topS 17
/-! ### data and their types -/
def tyD : PyData → String
  | .none => "NoneType"
  | .bool _ => "bool"
  | .int _ => "int"
  | .str _ => "str"
  | .list _ => "list"
  | .tuple _ => "tuple"
  | .dict _ => "dict"
theorem ty_dp {K : PySem.W.Frag} {H : Hp} {v : V} {d : PyData} (h : Dp K H v d) : TyX K H v (.type (tyD d)) := by
  cases h with
  | non => exact .base .non
  | bl b => exact .base (.bl b)
  | int i => exact .base (.int i)
  | str x => exact .base (.str x)
  | lst q _ =>
    rcases q with (q | ⟨o, q⟩) | ⟨o, its, n, q, hc, _⟩
    · exact .base (.lst q)
    · exact .base (.frz q)
    · exact .kList q hc
  | tup q _ =>
    rcases q with (q | ⟨o, q⟩) | ⟨o, its, n, q, hc, _⟩
    · exact .base (.tup q)
    · exact .fTuple q
    · exact .kTuple q hc
def isI : PyData → Bool
  | .int _ | .bool _ => true
  | _ => false
def isB : PyData → Bool
  | .bool _ => true
  | _ => false
def isT : PyData → Bool
  | .tuple _ => true
  | _ => false
theorem kit_int : ∀ d : PyData, kitB (tyD d) "int" = some (isI d)
  | .none => (by decide +kernel : kitB "NoneType" "int" = some false)
  | .bool _ => (by decide +kernel : kitB "bool" "int" = some true)
  | .int _ => (by decide +kernel : kitB "int" "int" = some true)
  | .str _ => (by decide +kernel : kitB "str" "int" = some false)
  | .list _ => (by decide +kernel : kitB "list" "int" = some false)
  | .tuple _ => (by decide +kernel : kitB "tuple" "int" = some false)
  | .dict _ => (by decide +kernel : kitB "dict" "int" = some false)
theorem kit_bool : ∀ d : PyData, kitB (tyD d) "bool" = some (isB d)
  | .none => (by decide +kernel : kitB "NoneType" "bool" = some false)
  | .bool _ => (by decide +kernel : kitB "bool" "bool" = some true)
  | .int _ => (by decide +kernel : kitB "int" "bool" = some false)
  | .str _ => (by decide +kernel : kitB "str" "bool" = some false)
  | .list _ => (by decide +kernel : kitB "list" "bool" = some false)
  | .tuple _ => (by decide +kernel : kitB "tuple" "bool" = some false)
  | .dict _ => (by decide +kernel : kitB "dict" "bool" = some false)
theorem kit_tup : ∀ d : PyData, kitB (tyD d) "tuple" = some (isT d)
  | .none => (by decide +kernel : kitB "NoneType" "tuple" = some false)
  | .bool _ => (by decide +kernel : kitB "bool" "tuple" = some false)
  | .int _ => (by decide +kernel : kitB "int" "tuple" = some false)
  | .str _ => (by decide +kernel : kitB "str" "tuple" = some false)
  | .list _ => (by decide +kernel : kitB "list" "tuple" = some false)
  | .tuple _ => (by decide +kernel : kitB "tuple" "tuple" = some true)
  | .dict _ => (by decide +kernel : kitB "dict" "tuple" = some false)
theorem len_dp {K : PySem.W.Frag} {H : Hp} : ∀ {vs : List V} {ds : List PyData}, DpAll K H vs ds → vs.length = ds.length
  | _, _, .nil => rfl
  | _, _, .cons _ r => by rw [List.length_cons, List.length_cons, len_dp r]
/-- whether an int, no flag, from lo to hi -/
def intIn (lo hi : Int) : PyData → Bool
  | .int i => decide (lo ≤ i) && decide (i ≤ hi)
  | _ => false
def isN : PyData → Bool
  | .int _ => true
  | _ => false
def tupOf (m : Int) : PyData → Bool
  | .tuple ds => decide ((ds.length : Int) = m)
  | _ => false
def spIsInteger (K : PySem.W.Frag) : Sp := fun vs H Q _ => ∃ (v : V) (d : PyData), vs = [v] ∧ Dp K H v d ∧ Q (.bl (isN d)) H
def spIntFrom (K : PySem.W.Frag) : Sp := fun vs H Q _ => ∃ (v : V) (d : PyData) (lo hi : Int), vs = [v, .int lo, .int hi] ∧ Dp K H v d ∧ Q (.bl (intIn lo hi d)) H
def spTupOf (K : PySem.W.Frag) : Sp := fun vs H Q _ => ∃ (v : V) (d : PyData) (m : Int), vs = [v, .int m] ∧ Dp K H v d ∧ Q (.bl (tupOf m d)) H
def deepD : Nat → PyData
  | 0 => .list [.none]
  | n + 1 => .list [deepD n]
def spDeep (K : PySem.W.Frag) : Sp := fun vs H Q _ => vs = [] ∧ ∀ (v : V) (H' : Hp), Same H H' → Dp K H' v (deepD 35) → Q v H'
section
variable {P : Program} {w : World} {K : PySem.W.Frag} {mg : Str → Option Value} {base : Heap}
theorem scIsInteger : FnScope ["thing"] ["thing"] (defScope sIsInteger) := ⟨rfl, rfl, rfl, by decide +kernel, rfl, by decide +kernel, by decide +kernel⟩
theorem ok_isInteger {f : Addr} {fd : FuncData} (F : Fun K "is_integer" "is_integer" sIsInteger f fd) (T : Nm mg) : FnOk P w K mg base CX0 1 f fd ["thing"] (spIsInteger K) := by
  refine F.ok scIsInteger (fun vs H Q E h => ?_) (fun cdv A outer s H vs Q E hr h => ?_)
  · obtain ⟨v, d, rfl, _⟩ := h
    rfl
  · obtain ⟨v, d, rfl, hd, k⟩ := h
    refine ⟨_, pss_one (ps_ret (pe_and (pe_callB call_isi (by rfl) T.isinstance (by decide +kernel) (pa_cons (pv 0) (pa_cons (pe_bltn (v := .ty "int") (by rfl) T.int (by decide +kernel) rfl) pa_nil)))
      (pe_one (pe_not (pe_callB call_isi (by rfl) T.isinstance (by decide +kernel) (pa_cons (pv 0) (pa_cons (pe_bltn (v := .ty "bool") (by rfl) T.bool (by decide +kernel) rfl) pa_nil))))))), ?_⟩
    refine ⟨_, rfl, _, _, _, _, _, rfl, .ty "int", ty_dp hd, kit_ty (kit_int d), _, rfl, ?_⟩
    have go : isI d = true → (!isB d) = isN d := by cases d <;> intro z <;> first | rfl | cases z
    have no : isI d = false → isN d = false := by cases d <;> intro z <;> first | rfl | cases z
    cases e : isI d with
    | true =>
      refine yes_of rfl ?_
      refine ⟨_, rfl, _, _, _, _, _, rfl, .ty "bool", ty_dp hd, kit_ty (kit_bool d), _, rfl, ?_⟩
      show Q (.bl (!isB d)) H
      rw [go e]
      exact k
    | false =>
      refine no_of rfl ?_
      show Q (.bl false) H
      rw [no e] at k
      exact k
theorem scIntFrom : FnScope ["thing", "low", "high"] ["thing", "low", "high"] (defScope sIntFrom) := ⟨rfl, rfl, rfl, by decide +kernel, rfl, by decide +kernel, by decide +kernel⟩
theorem ok_intFrom {f f1 : Addr} {fd fd1 : FuncData} (F : Fun K "is_integer_from" "is_integer_from" sIntFrom f fd) (G1 : FnOk P w K mg base CX0 1 f1 fd1 ["thing"] (spIsInteger K)) (m1 : mg "is_integer" = some (.ref f1)) (k1 : PySem.W.keepIn K (.ref f1) = true) (b1 : Binds K fd1 ["thing"] []) :
    FnOk P w K mg base CX0 2 f fd ["thing", "low", "high"] (spIntFrom K) := by
  refine F.ok scIntFrom (fun vs H Q E h => ?_) (fun cdv A outer s H vs Q E hr h => ?_)
  · obtain ⟨v, d, lo, hi, rfl, _⟩ := h
    rfl
  · obtain ⟨v, d, lo, hi, rfl, hd, k⟩ := h
    refine ⟨_, pss_one (ps_ret (pe_and (pe_call G1 hr (by rfl) m1 k1 b1 .nil pass0 (pa_cons (pv 0) pa_nil)) (pe_one (pe_chain op_le op_le (pv 1) (pv 0) (pv 2))))), ?_⟩
    refine ⟨_, rfl, v, d, rfl, hd, _, rfl, ?_⟩
    cases hd with
    | int i =>
      refine yes_of rfl ?_
      refine ⟨_, rfl, _, rfl, _, _, rfl, rfl, _, rfl, ?_⟩
      have e : intIn lo hi (.int i) = (decide (lo ≤ i) && decide (i ≤ hi)) := rfl
      rw [e] at k
      cases c : decide (lo ≤ i) with
      | true =>
        rw [c, Bool.true_and] at k
        exact yes_of rfl ⟨_, rfl, _, _, rfl, rfl, k⟩
      | false =>
        rw [c, Bool.false_and] at k
        exact no_of rfl k
    | _ => exact no_of rfl k
theorem scTupOf : FnScope ["thing", "many"] ["thing", "many"] (defScope sTupOf) := ⟨rfl, rfl, rfl, by decide +kernel, rfl, by decide +kernel, by decide +kernel⟩
theorem ok_tupOf {f : Addr} {fd : FuncData} (F : Fun K "is_tuple_of" "is_tuple_of" sTupOf f fd) (T : Nm mg) : FnOk P w K mg base CX0 1 f fd ["thing", "many"] (spTupOf K) := by
  refine F.ok scTupOf (fun vs H Q E h => ?_) (fun cdv A outer s H vs Q E hr h => ?_)
  · obtain ⟨v, d, m, rfl, _⟩ := h
    rfl
  · obtain ⟨v, d, m, rfl, hd, k⟩ := h
    refine ⟨_, pss_one (ps_ret (pe_and (pe_callB call_isi (by rfl) T.isinstance (by decide +kernel) (pa_cons (pv 0) (pa_cons (pe_bltn (v := .ty "tuple") (by rfl) T.tuple (by decide +kernel) rfl) pa_nil)))
      (pe_one (pe_cmpR op_eq (pe_callB call_len_seq (by rfl) T.len PySem.boot_len (pa_cons (pv 0) pa_nil)) (pv 1) (nomark _))))), ?_⟩
    refine ⟨_, rfl, _, _, _, _, _, rfl, .ty "tuple", ty_dp hd, kit_ty (kit_tup d), _, rfl, ?_⟩
    cases hd with
    | tup q r =>
      refine yes_of rfl ?_
      refine ⟨_, rfl, _, _, rfl, .inr q, _, rfl, rfl, ?_⟩
      rename_i a xs ds
      have e : (decide (V.int (xs.length : Nat) = V.int m)) = tupOf m (.tuple ds) := by
        show _ = decide ((ds.length : Int) = m)
        rw [← len_dp r]
        simp
      rw [← e] at k
      exact k
    | _ => exact no_of rfl k
theorem scDeep : FnScope ["thing", "turn"] [] (defScope sDeep) := ⟨rfl, rfl, rfl, by decide +kernel, rfl, by decide +kernel, by decide +kernel⟩
theorem ok_deep {f : Addr} {fd : FuncData} (F : Fun K "_law_deep" "_law_deep" sDeep f fd) (T : Nm mg) : FnOk P w K mg base CX0 1 f fd [] (spDeep K) := by
  refine F.ok scDeep (fun vs H Q E h => ?_) (fun cdv A outer s H vs Q E hr h => ?_)
  · obtain ⟨rfl, _⟩ := h
    rfl
  · obtain ⟨rfl, k⟩ := h
    refine ⟨_, pss_cons (ps_set (i := 0) scDeep.nd rfl (.inl rfl) (pe_lst (pa_cons pe_non pa_nil)))
      (pss_cons (ps_for PassesOwn.never rfl (pi_range1 rfl T.range (pa_cons pe_int pa_nil)) (pg_name (i := 1) scDeep.nd rfl (.inl rfl))
        (pss_one (ps_set (i := 0) scDeep.nd rfl (.inl rfl) (pe_lst (pa_cons (pv 0) pa_nil)))))
      (pss_one (ps_ret (pv 0)))), ?_⟩
    refine ⟨by show 1 ≤ sizeLine; decide, fun p np => ?_⟩
    refine ⟨35, rfl, by decide, by decide, for_range (n := 35) (fun i σ H' => ∃ (a : V) (v : Option V), σ = [some a, v] ∧ Same H H' ∧ Dp K H' a (deepD i)) ⟨.ref p, _, rfl, same_new np, .lst (SqL.of upd_same) (.cons .non .nil)⟩ ?_ ?_⟩
    · rintro i σ H' hi ⟨a, v, rfl, s1, hd⟩
      refine ⟨_, rfl, by show 1 ≤ sizeLine; decide, fun q nq => ?_⟩
      exact ⟨.ref q, _, rfl, s1.trans (same_new nq), .lst (SqL.of upd_same) (.cons (dp_up (same_new nq) _ _ hd) .nil)⟩
    · rintro σ H' ⟨a, v, rfl, s1, hd⟩
      exact ⟨_, rfl, k _ _ s1 hd⟩
theorem scIsInt : FnScope ["thing", "least", "most"] ["thing", "least", "most"] (defScope sIsInt) := ⟨rfl, rfl, rfl, by decide +kernel, rfl, by decide +kernel, by decide +kernel⟩
theorem ok_isInt {f : Addr} {fd : FuncData} (F : Fun K "_law_is_int" "_law_is_int" sIsInt f fd) (T : Nm mg) : FnOk P w K mg base CX0 1 f fd ["thing", "least", "most"] (spIntFrom K) := by
  refine F.ok scIsInt (fun vs H Q E h => ?_) (fun cdv A outer s H vs Q E hr h => ?_)
  · obtain ⟨v, d, lo, hi, rfl, _⟩ := h
    rfl
  · obtain ⟨v, d, lo, hi, rfl, hd, k⟩ := h
    refine ⟨_, pss_one (ps_ret (pe_and (pe_callB call_isi (by rfl) T.isinstance (by decide +kernel) (pa_cons (pv 0) (pa_cons (pe_bltn (v := .ty "int") (by rfl) T.int (by decide +kernel) rfl) pa_nil)))
      (pe_and (pe_not (pe_callB call_isi (by rfl) T.isinstance (by decide +kernel) (pa_cons (pv 0) (pa_cons (pe_bltn (v := .ty "bool") (by rfl) T.bool (by decide +kernel) rfl) pa_nil))))
      (pe_one (pe_chain op_le op_le (pv 1) (pv 0) (pv 2)))))), ?_⟩
    refine ⟨_, rfl, _, _, _, _, _, rfl, .ty "int", ty_dp hd, kit_ty (kit_int d), _, rfl, ?_⟩
    have hd' := hd
    cases hd with
    | int i =>
      refine yes_of rfl ?_
      refine ⟨_, rfl, _, _, _, _, _, rfl, .ty "bool", ty_dp hd', kit_ty (kit_bool _), _, rfl, _, rfl, yes_of rfl ?_⟩
      refine ⟨_, rfl, _, rfl, _, _, rfl, rfl, _, rfl, ?_⟩
      have e : intIn lo hi (.int i) = (decide (lo ≤ i) && decide (i ≤ hi)) := rfl
      rw [e] at k
      cases c : decide (lo ≤ i) with
      | true =>
        rw [c, Bool.true_and] at k
        exact yes_of rfl ⟨_, rfl, _, _, rfl, rfl, k⟩
      | false =>
        rw [c, Bool.false_and] at k
        exact no_of rfl k
    | bl b =>
      refine yes_of rfl ?_
      exact ⟨_, rfl, _, _, _, _, _, rfl, .ty "bool", ty_dp hd', kit_ty (kit_bool _), _, rfl, _, rfl, no_of rfl k⟩
    | _ => exact no_of rfl k
end
end My

set_option maxRecDepth 100000
set_option maxHeartbeats 4000000
namespace My
open PySem PySem.Spec PyProof.Rows L2 GL
/-! ### data that repr can tell -/
structure Nice (D W : Nat) (d : PyData) : Prop where
  lv : d.leavesShort 24 = true
  sh : d.showable = true
  nd : d.hasDict = false
  dp : d.depth ≤ D
  wt : d.weight ≤ W
theorem Nice.mono {D W D' W' : Nat} {d : PyData} (h : Nice D W d) (h1 : D ≤ D') (h2 : W ≤ W') : Nice D' W' d := ⟨h.lv, h.sh, h.nd, Nat.le_trans h.dp h1, Nat.le_trans h.wt h2⟩
theorem Nice.fits {D W : Nat} {d : PyData} (h : Nice D W d) (hW : W ≤ 300000) : d.shown.length ≤ sizeLine := by
  have e := PyData.shown_le 24 (by decide) d h.lv
  have e2 := h.wt
  rw [sizeLine_eq]
  omega
theorem nice_all {D W : Nat} : ∀ (ds : List PyData), (∀ d ∈ ds, Nice D W d) → PyData.leavesShortAll 24 ds = true ∧ PyData.showableAll ds = true ∧ PyData.hasDictAll ds = false ∧ PyData.depthAll ds ≤ D ∧ PyData.weightAll ds ≤ ds.length * (W + 1)
  | [], _ => ⟨rfl, rfl, rfl, Nat.zero_le _, Nat.zero_le _⟩
  | d :: ds, h => by
    have h1 := h d List.mem_cons_self
    obtain ⟨a1, a2, a3, a4, a5⟩ := nice_all ds fun x hx => h x (List.mem_cons_of_mem _ hx)
    refine ⟨?_, ?_, ?_, ?_, ?_⟩
    · show (d.leavesShort 24 && PyData.leavesShortAll 24 ds) = true
      rw [h1.lv, a1] <;> rfl
    · show (d.showable && PyData.showableAll ds) = true
      rw [h1.sh, a2] <;> rfl
    · show (d.hasDict || PyData.hasDictAll ds) = false
      rw [h1.nd, a3] <;> rfl
    · show max d.depth (PyData.depthAll ds) ≤ D
      exact Nat.max_le.mpr ⟨h1.dp, a4⟩
    · show d.weight + 1 + PyData.weightAll ds ≤ (ds.length + 1) * (W + 1)
      have := h1.wt
      rw [Nat.add_mul, Nat.one_mul]
      omega
theorem nice_tup {D W n : Nat} {ds : List PyData} (h : ∀ d ∈ ds, Nice D W d) (hl : ds.length ≤ n) : Nice (D + 1) (n * (W + 1)) (.tuple ds) := by
  obtain ⟨a1, a2, a3, a4, a5⟩ := nice_all ds h
  exact ⟨by rw [PyData.leavesShort]; exact a1, by rw [PyData.showable]; exact a2, by rw [PyData.hasDict]; exact a3, by rw [PyData.depth]; omega, by rw [PyData.weight]; exact Nat.le_trans a5 (Nat.mul_le_mul_right _ hl)⟩
theorem nice_lst {D W n : Nat} {ds : List PyData} (h : ∀ d ∈ ds, Nice D W d) (hl : ds.length ≤ n) : Nice (D + 1) (n * (W + 1)) (.list ds) := by
  obtain ⟨a1, a2, a3, a4, a5⟩ := nice_all ds h
  exact ⟨by rw [PyData.leavesShort]; exact a1, by rw [PyData.showable]; exact a2, by rw [PyData.hasDict]; exact a3, by rw [PyData.depth]; omega, by rw [PyData.weight]; exact Nat.le_trans a5 (Nat.mul_le_mul_right _ hl)⟩
theorem nice_int {i : Int} (h : i.natAbs < 10 ^ 20) : Nice 0 70 (.int i) := by
  have p : (10 : Nat) ^ 20 < 2 ^ 67 := by decide
  have lg : i.natAbs.log2 < 67 := by
    by_cases z : i.natAbs = 0
    · rw [z]; decide
    · exact (Nat.log2_lt z).mpr (Nat.lt_trans h p)
  refine ⟨?_, ?_, rfl, Nat.le_refl _, ?_⟩
  · have e := int_text_length_le10 (k := 20) (by decide) h
    have e2 : (PyData.shown (.int i)).length = (toString i).length := PySem.ofString_length _
    rw [PyData.leavesShort, decide_eq_true_eq, e2]
    omega
  · rw [PyData.showable, decide_eq_true_eq]
    omega
  · rw [PyData.weight]
    split <;> omega
theorem nice_none : Nice 0 70 .none := ⟨rfl, rfl, rfl, Nat.le_refl _, Nat.zero_le _⟩
theorem nice_bool (b : Bool) : Nice 0 70 (.bool b) := ⟨rfl, rfl, rfl, Nat.le_refl _, Nat.zero_le _⟩
theorem nice_deep : Nice 36 70 (deepD 35) := by constructor <;> decide +kernel
theorem dp_mem {K : PySem.W.Frag} {H : Hp} : ∀ {vs : List V} {ds : List PyData} {i : Nat} {v : V}, DpAll K H vs ds → vs[i]? = some v → ∃ d, ds[i]? = some d ∧ Dp K H v d
  | _, _, _, _, .nil, h => by simp at h
  | _, _, 0, _, .cons q _, h => by
    have e := Option.some.inj h
    subst e
    exact ⟨_, rfl, q⟩
  | _, _, i + 1, _, .cons _ r, h => by
    obtain ⟨d, h1, h2⟩ := dp_mem (i := i) r (by simpa using h)
    exact ⟨d, by simpa using h1, h2⟩
/-! ### _law_is -/
def spIs (K : PySem.W.Frag) : Sp := fun vs H Q _ => ∃ (a b : Addr) (d : PyData), vs = [.ref a, .ref b] ∧ Dp K H (.ref a) d ∧ Dp K H (.ref b) d ∧ Nice 60 300000 d ∧ Q (.bl true) H
section
variable {P : Program} {w : World} {K : PySem.W.Frag} {mg : Str → Option Value} {base : Heap}
theorem scIs : FnScope ["told", "due"] ["told", "due"] (defScope sIs) := ⟨rfl, rfl, rfl, by decide +kernel, rfl, by decide +kernel, by decide +kernel⟩
theorem ok_is {f : Addr} {fd : FuncData} (F : Fun K "_law_is" "_law_is" sIs f fd) (T : Nm mg) : FnG P w K mg base 1 f fd ["told", "due"] (spIs K) := by
  refine F.okG scIs (fun vs H Q h => ?_) (fun cdv A outer s H vs Q hg hr h => ?_)
  · obtain ⟨a, b, d, rfl, _⟩ := h
    rfl
  · obtain ⟨a, b, d, rfl, ha, hb, hn, k⟩ := h
    have hu := hr.units
    refine ⟨_, pss_one (ps_ret (pe_cmpR op_eq (pe_callB (call_reprD hg hu) (by rfl) T.repr (by decide +kernel) (pa_cons (pv 0) pa_nil)) (pe_callB (call_reprD hg hu) (by rfl) T.repr (by decide +kernel) (pa_cons (pv 1) pa_nil)) (nomark _))), ?_⟩
    have z := hn.fits (Nat.le_refl _)
    refine ⟨_, rfl, a, d, rfl, ha, hn.sh, hn.nd, hn.dp, z, _, rfl, b, d, rfl, hb, hn.sh, hn.nd, hn.dp, z, rfl, ?_⟩
    show Q (.bl (decide (V.str d.shown = V.str d.shown))) H
    rw [decide_eq_true rfl]
    exact k
end
end My

set_option maxRecDepth 100000
set_option maxHeartbeats 4000000
namespace My
open PySem PySem.Spec PyProof.Rows L2 GL
abbrev sBadInit : Stmt := inClass (topS 2) 0
abbrev sBoxInit : Stmt := inClass (topS 10) 0
abbrev sBoxEq : Stmt := inClass (topS 10) 1
abbrev sIsSize : Stmt := topS 11
/-! ### sizes -/
def sizeOk : PyData → Bool
  | .tuple ds => decide (ds.length = 2) && ds.all (intIn 1 1000)
  | _ => false
def firstBad : List PyData → Nat → Option Int
  | [], _ => none
  | d :: r, i => if sizeOk d = true then firstBad r (i + 1) else some (i : Int)
def dueD : PyData → Option Int
  | .tuple ds => if 0 < ds.length ∧ ds.length < 41 then firstBad ds 0 else some (-1)
  | _ => some (-1)
theorem drop_at {α : Type} : ∀ {l : List α} {i : Nat} {x : α}, l[i]? = some x → l.drop i = x :: l.drop (i + 1)
  | [], i, x, h => by simp at h
  | a :: l, 0, x, h => by
    have e := Option.some.inj h
    subst e
    rfl
  | a :: l, i + 1, x, h => drop_at (l := l) (i := i) (by simpa using h)
theorem take_at {α : Type} : ∀ {l : List α} {i : Nat} {x : α}, l[i]? = some x → l.take (i + 1) = l.take i ++ [x]
  | [], i, x, h => by simp at h
  | a :: l, 0, x, h => by
    have e := Option.some.inj h
    subst e
    rfl
  | a :: l, i + 1, x, h => by
    have z := take_at (l := l) (i := i) (x := x) (by simpa using h)
    show a :: l.take (i + 1) = a :: l.take i ++ [x]
    rw [z]
    rfl
def spSize (K : PySem.W.Frag) : Sp := fun vs H Q _ => ∃ (v : V) (d : PyData), vs = [v] ∧ Dp K H v d ∧ ∀ H', Same H H' → Q (.bl (sizeOk d)) H'
section
variable {P : Program} {w : World} {K : PySem.W.Frag} {mg : Str → Option Value} {base : Heap}
theorem scIsSize : FnScope ["thing", "length"] ["thing"] (defScope sIsSize) := ⟨rfl, rfl, rfl, by decide +kernel, rfl, by decide +kernel, by decide +kernel⟩
theorem ok_isSize {f f1 f2 : Addr} {fd fd1 fd2 : FuncData} (F : Fun K "is_size" "is_size" sIsSize f fd) (T : Nm mg)
    (G1 : FnOk P w K mg base CX0 1 f1 fd1 ["thing", "many"] (spTupOf K)) (m1 : mg "is_tuple_of" = some (.ref f1)) (k1 : PySem.W.keepIn K (.ref f1) = true) (b1 : Binds K fd1 ["thing", "many"] [])
    (G2 : FnOk P w K mg base CX0 2 f2 fd2 ["thing", "low", "high"] (spIntFrom K)) (m2 : mg "is_integer_from" = some (.ref f2)) (k2 : PySem.W.keepIn K (.ref f2) = true) (b2 : Binds K fd2 ["thing", "low", "high"] [])
    {tk : Tok} (mL : mg "LONGEST" = some (.int 1000 tk)) : FnOk P w K mg base CX0 3 f fd ["thing"] (spSize K) := by
  refine F.ok scIsSize (fun vs H Q E h => ?_) (fun cdv A outer s H vs Q E hr h => ?_)
  · obtain ⟨v, d, rfl, _⟩ := h
    rfl
  · obtain ⟨v, d, rfl, hd, k⟩ := h
    have hr1 : Room 1 _ := hr.mono (by decide)
    refine ⟨_, pss_one (ps_ret (pe_and (pe_call G1 hr1 (by rfl) m1 k1 b1 .nil pass0 (pa_cons (pv 0) (pa_cons pe_int pa_nil)))
      (pe_one (pe_callB (cr_all rfl) (by rfl) T.all (by decide +kernel) (pa_cons
        (pe_lc (own := [("length", 1)]) (g := gName 1) (tt := tYes) (by rfl) scIsSize.nd (pi_tup (pv 0)) (blkOk_by (N := ["thing", "length"]) (sc := defScope sIsSize) (by decide +kernel))
          (fun _ _ _ _ _ => pg_name (i := 1) scIsSize.nd rfl (Or.inl rfl)) (fun _ _ _ _ _ => pts_nil)
          (fun _ _ _ _ _ => pe_call G2 hr (by rfl) m2 k2 b2 .nil pass0 (pa_cons (pv 1) (pa_cons pe_int (pa_cons (pe_glob (v := .int 1000) rfl mL ⟨_, rfl⟩) pa_nil))))) pa_nil))))), ?_⟩
    refine ⟨_, rfl, v, d, 2, rfl, hd, _, rfl, ?_⟩
    cases e : tupOf 2 d with
    | false =>
      refine no_of rfl ?_
      have z : sizeOk d = false := by
        cases d with
        | tuple ds =>
          have n2 : ¬ ((ds.length : Int) = 2) := of_decide_eq_false e
          show (decide (ds.length = 2) && _) = false
          rw [decide_eq_false (by omega)] <;> rfl
        | _ => rfl
      have kk := k H (Same.refl H)
      rw [z] at kk
      exact kk
    | true =>
      refine yes_of rfl ?_
      cases hd with
      | tup q r =>
        rename_i a xs ds
        have n2 : (ds.length : Int) = 2 := of_decide_eq_true e
        have lx := len_dp r
        refine ⟨_, rfl, a, rfl, ⟨_, q⟩, fun D nD => lc_tup (K := K) (a := a) (xs := xs) (fun i H2 => Same H H2 ∧ H2 D = some (.lst ((ds.take i).map fun d => V.bl (intIn 1 1000 d)))) ⟨same_new nD, upd_same⟩ (fun i H2 _ z => seqT_up z.1 q) ?_ ?_⟩
        · rintro i y H2 hi ⟨t1, t2⟩
          obtain ⟨dy, hdy, qy⟩ := dp_mem r hi
          refine ⟨rfl, _, rfl, y, dy, 1, 1000, rfl, dp_up t1 _ _ qy, _, t2, small1000 (by rw [List.length_map, List.length_take]; omega), ?_, ?_⟩
          · intro b o z
            rw [upd_ne (ne_of_none z nD)]
            exact t1 b o z
          · rw [upd_same, take_at hdy, List.map_append]
            rfl
        · rintro H2 ⟨t1, t2⟩
          refine ⟨D, (ds.take xs.length).map (intIn 1 1000), rfl, SqL.of ?_, ?_⟩
          · rw [t2, List.map_map]
            rfl
          · have z : ((ds.take xs.length).map (intIn 1 1000)).all id = sizeOk (.tuple ds) := by
              rw [lx, List.take_length]
              show _ = (decide (ds.length = 2) && ds.all (intIn 1 1000))
              rw [decide_eq_true (by omega), Bool.true_and, List.all_map]
              rfl
            show Q (.bl _) H2
            rw [z]
            exact k H2 t1
      | _ => exact absurd (show false = true from e) Bool.false_ne_true
end
end My

set_option maxRecDepth 100000
set_option maxHeartbeats 4000000
namespace My
open PySem PySem.Spec PyProof.Rows L2 GL
/-! ### BadBoxes, Boxes -/
/-- self.part = part: a fresh error gets its dict -/
def spBad (C : Addr) : Sp := fun vs H Q _ => ∃ (a : Addr) (v : V), vs = [.ref a, v] ∧ H a = some (exo a C none) ∧ ∀ dx, H dx = none → dx ≠ a → Q .non (upd (upd H dx (exd dx [(("part" : Str), v)])) a (exo a C (some dx)))
theorem nsm : ¬ (("sizes" : Str) = "many") := by decide +kernel
def bfl (v : V) (n : Int) : List (Str × V) := putF "many" (.int n) (putF "sizes" v [])
theorem bfl_eq (v : V) (n : Int) : bfl v n = ([("sizes", v), ("many", V.int n)] : List (Str × V)) := by
  show (if ("sizes" : Str) = "many" then [(("sizes" : Str), V.int n)] else (("sizes" : Str), v) :: putF "many" (V.int n) []) = ([("sizes", v), ("many", V.int n)] : List (Str × V))
  rw [if_neg nsm]
  all_goals rfl
theorem bfl_sizes (v : V) (n : Int) : (bfl v n).lookup ("sizes" : Str) = some v := by
  unfold bfl
  rw [lookup_putF, if_neg nsm, lookup_putF, if_pos rfl]
theorem bfl_many (v : V) (n : Int) : (bfl v n).lookup ("many" : Str) = some (.int n) := by
  unfold bfl
  rw [lookup_putF, if_pos rfl]
/-- the promise of Boxes.__init__: C the class, CB that of BadBoxes -/
def spBox (K : PySem.W.Frag) (C CB : Addr) : Sp := fun vs H Q E => ∃ (x dx : Addr) (v : V) (d : PyData), vs = [.ref x, v] ∧ H x = some (.ins C dx []) ∧ Dp K H v d ∧
  (∀ z, dueD d = some z → ∀ (dd : Addr) (H' : Hp), Same H H' → H' dd = some (.xd [(("part" : Str), .int z)]) → H dd = none → E (.ref CB) (some dd) H') ∧
  (dueD d = none → ∀ (ds : List PyData) (H' : Hp), d = .tuple ds → (∀ b o, H b = some o → b ≠ x → H' b = some o) → H' x = some (.ins C dx (bfl v (ds.length : Int))) → Q .non H')
structure BTxt (K : PySem.W.Frag) (mg : Str → Option Value) (C CB fB : Addr) : Prop where
  cl : Cls K C
  nS : NoAttr K C "sizes"
  nM : NoAttr K C "many"
  mgC : mg "Boxes" = some (.ref C)
  bad : OexC K CB
  noP : PySem.W.findIn K (.ref CB) "part" = some none
  mgB : mg "BadBoxes" = some (.ref CB)
  iB : PySem.W.findIn K (.ref CB) "__init__" = some (some (.ref fB))
  tB : PySem.W.typeIn K (.ref fB) = some (.type "function")
section
variable {P : Program} {w : World} {K : PySem.W.Frag} {mg : Str → Option Value} {base : Heap} {C CB fB : Addr}
theorem scBadInit : FnScope ["self", "part"] ["self", "part"] (defScope sBadInit) := ⟨rfl, rfl, rfl, by decide +kernel, rfl, by decide +kernel, by decide +kernel⟩
theorem ok_badInit {fd : FuncData} (F : Fun K "__init__" "BadBoxes.__init__" sBadInit fB fd) (T : BTxt K mg C CB fB) : FnOk P w K mg base CX0 1 fB fd ["self", "part"] (spBad CB) := by
  refine F.ok scBadInit (fun vs H Q E h => ?_) (fun cdv A outer s H vs Q E hr h => ?_)
  · obtain ⟨a, v, rfl, _⟩ := h
    rfl
  · obtain ⟨a, v, rfl, ha, k⟩ := h
    refine ⟨_, pss_one (ps_ost (pv 0) (pv 1)), ?_⟩
    exact ⟨_, rfl, _, rfl, a, CB, rfl, T.bad, T.noP, .inl ⟨ha, fun dx n1 n2 => k dx n1 n2⟩⟩
theorem raise_bad {H0 H1 : Hp} (s : Same H0 H1) (z : Int) {W : XK} (k : ∀ (dd : Addr) (H' : Hp), Same H0 H' → H' dd = some (.xd [(("part" : Str), .int z)]) → H0 dd = none → W (.ref CB) (some dd) H') (a : Addr) (na : H1 a = none) :
    spBad CB (.ref a :: ([V.int z] ++ [])) (upd H1 a (exo a CB none)) (fun v H2 => v = .non ∧ ∃ (d : Addr) (fs : List (Str × V)), H2 a = some (exo a CB (some d)) ∧ H2 d = some (exd d fs) ∧ H1 d = none ∧ W (.ref CB) (some d) (upd (del H2 a) d (.xd fs))) (fun _ _ _ => False) := by
  refine ⟨a, .int z, rfl, upd_same, fun dx n1 n2 => ?_⟩
  have n3 : H1 dx = none := by
    rw [upd_ne n2] at n1
    exact n1
  refine ⟨rfl, dx, _, upd_same, by rw [upd_ne n2, upd_same], n3, k dx _ (fun b o e => ?_) upd_same (s.free n3)⟩
  have b1 : b ≠ dx := ne_of_none (s b o e) n3
  have b2 : b ≠ a := ne_of_none (s b o e) na
  rw [upd_ne b1, del_ne b2, upd_ne b2, upd_ne b1, upd_ne b2]
  exact s b o e
theorem scBoxInit : FnScope ["self", "sizes", "part", "size"] ["self", "sizes"] (defScope sBoxInit) := ⟨rfl, rfl, rfl, by decide +kernel, rfl, by decide +kernel, by decide +kernel⟩
theorem firstBad_at {ds : List PyData} {i : Nat} {d : PyData} (h : ds[i]? = some d) : firstBad (ds.drop i) i = if sizeOk d = true then firstBad (ds.drop (i + 1)) (i + 1) else some (i : Int) := by
  rw [drop_at h]
  rfl
theorem ok_boxInit {f f1 : Addr} {fd fd1 fdB : FuncData} (F : Fun K "__init__" "Boxes.__init__" sBoxInit f fd) (N : Nm mg) (T : BTxt K mg C CB fB)
    (G1 : FnOk P w K mg base CX0 3 f1 fd1 ["thing"] (spSize K)) (m1 : mg "is_size" = some (.ref f1)) (k1 : PySem.W.keepIn K (.ref f1) = true) (b1 : Binds K fd1 ["thing"] [])
    (GB : FnOk P w K mg base CX0 1 fB fdB ["self", "part"] (spBad CB)) (bB : Binds K fdB ["self", "part"] []) {tk : Tok} (mM : mg "MOST_BOXES" = some (.int 40 tk)) :
    FnOk P w K mg base (L2.CX P w) 4 f fd ["self", "sizes"] (spBox K C CB) := by
  refine F.okX scBoxInit (fun vs H Q E h => ?_) (fun cdv A outer s H vs Q E hr h => ?_)
  · obtain ⟨x, dx, v, d, rfl, _⟩ := h
    rfl
  · obtain ⟨x, dx, v, d, rfl, hx, hd, kE, kQ⟩ := h
    have hr2 : Room 2 _ := hr.mono (by decide)
    refine ⟨_, pss_cons (ps_if (PW.pt (pw_or (pt_not (pt_val (pe_callB call_isi (by rfl) N.isinstance (by decide +kernel) (pa_cons (pv 1) (pa_cons (pe_bltn (v := .ty "tuple") (by rfl) N.tuple (by decide +kernel) rfl) pa_nil)))))
        (pw_or1 (pt_not (pt_chain op_le op_le pe_int (pe_callB call_len_seq (by rfl) N.len PySem.boot_len (pa_cons (pv 1) pa_nil)) (pe_glob (v := .int 40) rfl mM ⟨_, rfl⟩))))))
        (pss_one (ps_raise rfl (takes_of rfl rfl rfl rfl) (pmk_oex T.bad T.iB T.tB GB hr2 bB .nil pass0 (by rfl) T.mgB (pa_cons (pe_un un_neg pe_int) pa_nil)))) pss_nil)
      (pss_cons (ps_for (passes_of rfl) rfl (pi_enumT (by rfl) N.enumerate (pa_cons (pv 1) pa_nil)) (pg_tup rfl (pgs_cons (pg_name (i := 2) scBoxInit.nd rfl (.inl rfl)) (pgs_cons (pg_name (i := 3) scBoxInit.nd rfl (.inl rfl)) pgs_nil)))
        (pss_one (ps_if (pt_not (pt_val (pe_call G1 hr (by rfl) m1 k1 b1 .nil pass0 (pa_cons (pv 3) pa_nil))))
          (pss_one (ps_raise rfl (takes_of rfl rfl rfl rfl) (pmk_oex T.bad T.iB T.tB GB hr2 bB .nil pass0 (by rfl) T.mgB (pa_cons (pv 2) pa_nil)))) pss_nil)))
      (pss_cons (ps_fld (pv 0) (pv 1) rfl) (pss_one (ps_fld (pv 0) (pe_callB call_len_seq (by rfl) N.len PySem.boot_len (pa_cons (pv 1) pa_nil)) rfl)))), ?_⟩
    refine ⟨_, rfl, _, _, _, _, _, rfl, .ty "tuple", ty_dp hd, kit_ty (kit_tup d), _, rfl, ?_⟩
    by_cases hT : isT d = true
    case neg =>
      have hT' : isT d = false := by simpa using hT
      have dueN : dueD d = some (-1) := by
        cases d <;> first | rfl | exact absurd rfl hT
      refine yes_of (by rw [hT'] <;> rfl) ?_
      refine yes_of rfl ?_
      refine ⟨_, rfl, by show 1 ≤ 1000; decide, fun a na => raise_bad (Same.refl H) (-1) (fun dd H' h1 h2 h3 => kE _ dueN dd H' h1 h2 h3) a na⟩
    case pos =>
      refine no_of (by rw [hT] <;> rfl) ?_
      cases hd with
      | tup q r =>
        rename_i a xs ds
        have lx := len_dp r
        refine ⟨_, rfl, a, xs, rfl, .inr q, _, _, rfl, rfl, _, rfl, ?_⟩
        have bad1 : ¬ (0 < ds.length ∧ ds.length < 41) → dueD (.tuple ds) = some (-1) := fun z => if_neg z
        by_cases c1 : (1 : Int) ≤ ((xs.length : Nat) : Int)
        case neg =>
          refine no_of (decide_eq_false c1) ⟨_, rfl, yes_of rfl ?_⟩
          refine ⟨_, rfl, by show 1 ≤ 1000; decide, fun a na => raise_bad (Same.refl H) (-1) (fun dd H' h1 h2 h3 => kE _ (bad1 (by omega)) dd H' h1 h2 h3) a na⟩
        case pos =>
          refine yes_of (decide_eq_true c1) ⟨_, _, rfl, rfl, _, rfl, ?_⟩
          by_cases c2 : ((xs.length : Nat) : Int) ≤ 40
          case neg =>
            refine yes_of (by rw [decide_eq_false c2] <;> rfl) ?_
            refine ⟨_, rfl, by show 1 ≤ 1000; decide, fun a na => raise_bad (Same.refl H) (-1) (fun dd H' h1 h2 h3 => kE _ (bad1 (by omega)) dd H' h1 h2 h3) a na⟩
          case pos =>
            refine no_of (by rw [decide_eq_true c2] <;> rfl) ?_
            have due1 : dueD (.tuple ds) = firstBad ds 0 := if_pos (by omega)
            refine ⟨_, rfl, a, xs, rfl, q, for_it walk_enumT (fun i σ H' => ∃ (v1 v2 : Option V), σ = [some (.ref x), some (.ref a), v1, v2] ∧ Same H H' ∧ firstBad ds 0 = firstBad (ds.drop i) i)
              ⟨none, none, rfl, Same.refl H, rfl⟩ (fun i σ H' _ ⟨_, _, _, z, _⟩ => seqT_up z q) ?_ ?_⟩
            · rintro i y σ H1 H2 hi ⟨v1, v2, rfl, s1, fb⟩ ⟨T1, y1, y2, rfl, nT, rfl, e1, e2⟩
              have e1 := Option.some.inj e1
              subst e1
              obtain ⟨dy, hdy, qy⟩ := dp_mem r e2
              have s2 : Same H (upd H1 T1 (.tup [.int (i : Nat), y2])) := s1.trans (same_new nT)
              refine ⟨T1, _, rfl, SqT.of upd_same, rfl, _, _, rfl, _, _, rfl, rfl, ?_⟩
              refine ⟨_, rfl, y2, dy, rfl, dp_up s2 _ _ qy, fun H3 s3 => ⟨_, rfl, ?_⟩⟩
              have s4 := s2.trans s3
              rw [firstBad_at hdy] at fb
              cases ok : sizeOk dy with
              | true =>
                rw [ok, if_pos rfl] at fb
                exact no_of rfl ⟨_, _, rfl, s4, fb⟩
              | false =>
                rw [ok, if_neg Bool.false_ne_true] at fb
                refine yes_of rfl ?_
                exact ⟨_, rfl, by show 1 ≤ 1000; decide, fun a na => raise_bad s4 (i : Nat) (fun dd H' h1 h2 h3 => kE _ (due1.trans fb) dd H' h1 h2 h3) a na⟩
            · rintro σ H1 ⟨v1, v2, rfl, s1, fb⟩
              rw [lx, List.drop_length] at fb
              have due2 : dueD (.tuple ds) = none := due1.trans fb
              have hx1 := s1 _ _ hx
              refine ⟨_, rfl, _, rfl, x, C, dx, [], rfl, hx1, T.cl, T.nS, (by show 0 < 1000; decide), ?_⟩
              have nxa : ∀ o, SqT K (upd H1 x o) a xs := fun o => by
                rcases seqT_up s1 q with (z | ⟨ob, z⟩) | z
                · exact .inl (.inl (by rw [upd_ne (ne_of z hx1 (by intro y; cases y))]; exact z))
                · exact .inl (.inr ⟨ob, by rw [upd_ne (ne_of z hx1 (by intro y; cases y))]; exact z⟩)
                · exact .inr z
              refine ⟨_, rfl, a, xs, rfl, .inr (nxa _), _, rfl, x, C, dx, _, rfl, upd_same, T.cl, T.nM, (by show 1 < 1000; decide), ?_⟩
              refine kQ due2 ds _ rfl (fun b o e nb => ?_) ?_
              · rw [upd_ne nb, upd_ne nb]
                exact s1 b o e
              · rw [upd_same, lx]
                rfl
      | _ => exact absurd (show false = true from hT) Bool.false_ne_true
end
end My

set_option maxRecDepth 100000
set_option maxHeartbeats 4000000
namespace My
open PySem PySem.Spec PyProof.Rows L2 GL
abbrev sSizes : Stmt := topS 18
abbrev sDue : Stmt := topS 19
/-! ### drawn sizes -/
theorem at_pick {α : Type} {xs : List α} {d : Int} (h0 : 0 ≤ d) (h1 : d < (xs.length : Nat)) : ∃ v, atI xs d = some v ∧ v ∈ xs := by
  obtain ⟨j, rfl⟩ : ∃ j : Nat, d = (j : Int) := ⟨d.toNat, by omega⟩
  have hj : j < xs.length := by omega
  exact ⟨xs[j], atI_nat (List.getElem?_eq_getElem hj), List.getElem_mem hj⟩
def Tups (H H' : Hp) : Prop := ∀ q xs, H q = some (.tup xs) → H' q = some (.tup xs)
theorem Tups.trans {H H1 H2 : Hp} (a : Tups H H1) (b : Tups H1 H2) : Tups H H2 := fun q xs z => b q xs (a q xs z)
theorem tups_same {H H' : Hp} (e : Same H H') : Tups H H' := fun q xs z => e q _ z
theorem PoolAt.tne {H : Hp} {p c q : Addr} {xs : List V} (h : PoolAt H p c) (z : H q = some (.tup xs)) : q ≠ p ∧ q ≠ c := by
  obtain ⟨s, t, ns, h1, h2, _⟩ := h.ex
  exact ⟨ne_of z h1 (by intro y; cases y), ne_of z h2 (by intro y; cases y)⟩
theorem tups_hid {H H' : Hp} {p c : Addr} (h : PoolAt H p c) (e : Same (hid H p c) (hid H' p c)) : Tups H H' := fun q xs z => (hid_at.mp (e q _ (hid_at.mpr ⟨h.tne z, z⟩))).2
theorem tups_upd {H : Hp} {D : Addr} {l ys : List V} (h : H D = some (.lst l)) : Tups H (upd H D (.lst ys)) := fun q xs z => by
  rw [upd_ne (ne_of z h (by intro y; cases y))]
  exact z
def PairsAt (H : Hp) : List V → List (Int × Int) → Prop := Paired fun v p => ∃ q, v = V.ref q ∧ H q = some (.tup [.int p.1, .int p.2])
theorem PairsAt.mono {H H' : Hp} (e : Tups H H') : ∀ {vs : List V} {ps : List (Int × Int)}, PairsAt H vs ps → PairsAt H' vs ps
  | _, _, .nil => .nil
  | _, _, .cons ⟨q, h1, h2⟩ r => .cons ⟨q, h1, e q _ h2⟩ (PairsAt.mono e r)
theorem PairsAt.length {H : Hp} : ∀ {vs : List V} {ps : List (Int × Int)}, PairsAt H vs ps → vs.length = ps.length
  | _, _, .nil => rfl
  | _, _, .cons _ r => by rw [List.length_cons, List.length_cons, PairsAt.length r]
theorem PairsAt.snoc {H : Hp} : ∀ {vs : List V} {ps : List (Int × Int)} {q : Addr} {a b : Int}, PairsAt H vs ps → H q = some (.tup [.int a, .int b]) → PairsAt H (vs ++ [.ref q]) (ps ++ [(a, b)])
  | _, _, q, _, _, .nil, h => .cons ⟨q, rfl, h⟩ .nil
  | _, _, _, _, _, .cons x r, h => .cons x (PairsAt.snoc r h)
def pairD (p : Int × Int) : PyData := .tuple [.int p.1, .int p.2]
def szD (ps : List (Int × Int)) : PyData := .tuple (ps.map pairD)
theorem PairsAt.dp {K : PySem.W.Frag} {H : Hp} : ∀ {vs : List V} {ps : List (Int × Int)}, PairsAt H vs ps → DpAll K H vs (ps.map pairD)
  | _, _, .nil => .nil
  | _, _, .cons ⟨q, h1, h2⟩ r => by
    subst h1
    exact .cons (.tup (SqT.of h2) (.cons (.int _) (.cons (.int _) .nil))) (PairsAt.dp r)
theorem hid_tup {H : Hp} {p c q : Addr} {xs : List V} (h : PoolAt H p c) (z : H q = some (.tup xs)) : hid H p c q = some (.tup xs) := hid_at.mpr ⟨h.tne z, z⟩
theorem PairsAt.hid {H : Hp} {p c : Addr} (h : PoolAt H p c) {vs : List V} {ps : List (Int × Int)} (z : PairsAt H vs ps) : PairsAt (My.hid H p c) vs ps := z.mono fun _ _ y => hid_tup h y
theorem hid_new {H : Hp} {p c x : Addr} {o : HO} (h : H x = none) : Same (hid H p c) (hid (upd H x o) p c) := hid_mono (same_new h)
theorem PoolAt.off {H : Hp} {p c D : Addr} {o : HO} (h : PoolAt H p c) (n : D ≠ p ∧ D ≠ c) : PoolAt (upd H D o) p c := by
  obtain ⟨s, t, ns, h1, h2, h3⟩ := h.ex
  exact ⟨s, t, ns, by rw [upd_ne n.1.symm]; exact h1, by rw [upd_ne n.2.symm]; exact h2, h3⟩
theorem same_off {A H : Hp} {p c D : Addr} {o : HO} (e : Same A (hid H p c)) (n : A D = none) : Same A (hid (upd H D o) p c) := fun b u z => by
  obtain ⟨n1, y⟩ := hid_at.mp (e b u z)
  refine hid_at.mpr ⟨n1, ?_⟩
  rw [upd_ne (ne_of_none z n)]
  exact y
def spSizes (K : PySem.W.Frag) : Sp := fun vs H Q _ => ∃ (p c : Addr) (m : Int), vs = [.ref p, .int m] ∧ PoolAt H p c ∧ 0 < m ∧ m < 1000000 ∧
  ∀ (a : Addr) (ps : List (Int × Int)) (H' : Hp), PoolAt H' p c → Same (hid H p c) (hid H' p c) → Dp K (hid H' p c) (.ref a) (szD ps) → 0 < ps.length → (ps.length : Int) ≤ m → (∀ q ∈ ps, (1 ≤ q.1 ∧ q.1 ≤ 1000) ∧ 1 ≤ q.2 ∧ q.2 ≤ 1000) → Q (.ref a) H'
section
variable {P : Program} {w : World} {K : PySem.W.Frag} {mg : Str → Option Value} {base : Heap}
theorem scSizes : FnScope ["pool", "most", "far", "box"] ["pool", "most"] (defScope sSizes) := ⟨rfl, rfl, rfl, by decide +kernel, rfl, by decide +kernel, by decide +kernel⟩
theorem ok_sizes {f f1 : Addr} {fd fd1 : FuncData} (F : Fun K "_law_sizes" "_law_sizes" sSizes f fd) (T : Nm mg)
    (G1 : FnOk P w K mg base CX0 1 f1 fd1 ["pool", "many"] spDraw) (m1 : mg "_law_draw" = some (.ref f1)) (k1 : PySem.W.keepIn K (.ref f1) = true) (b1 : Binds K fd1 ["pool", "many"] []) : FnOk P w K mg base CX0 2 f fd ["pool", "most"] (spSizes K) := by
  refine F.ok scSizes (fun vs H Q E h => ?_) (fun cdv A outer s H vs Q E hr h => ?_)
  · obtain ⟨p, c, m, rfl, _⟩ := h
    rfl
  · obtain ⟨p, c, m, rfl, hp, m0, mM, k⟩ := h
    refine ⟨_, pss_cons (ps_set (i := 2) scSizes.nd rfl (.inr rfl) (pe_ix ix_list (pe_lst (pa_cons pe_int (pa_cons pe_int (pa_cons pe_int (pa_cons pe_int (pa_cons pe_int pa_nil))))))
          (pe_call G1 hr (by rfl) m1 k1 b1 .nil pass0 (pa_cons (pv 0) (pa_cons pe_int pa_nil))) (fun _ _ => rfl)))
      (pss_one (ps_ret (pe_callTy call_tuple_of (by rfl) T.tuple (by decide +kernel) (pa_cons
        (pe_lc (own := [("box", 3)]) (g := gName 3) (tt := tYes) (by rfl) scSizes.nd (pi_range1 rfl T.range (pa_cons (pe_op op_add pe_int (pe_call G1 hr (by rfl) m1 k1 b1 .nil pass0 (pa_cons (pv 0) (pa_cons (pv 1) pa_nil)))) pa_nil))
          (blkOk_by (N := ["pool", "most", "far", "box"]) (sc := defScope sSizes) (by decide +kernel))
          (fun _ _ _ _ _ => pg_name (i := 3) scSizes.nd rfl (Or.inl rfl)) (fun _ _ _ _ _ => pts_nil)
          (fun _ _ _ _ _ => pe_tup (pa_cons (pe_op op_add pe_int (pe_call G1 hr (by rfl) m1 k1 b1 .nil pass0 (pa_cons (pv 0) (pa_cons (pv 2) pa_nil))))
            (pa_cons (pe_op op_add pe_int (pe_call G1 hr (by rfl) m1 k1 b1 .nil pass0 (pa_cons (pv 0) (pa_cons (pv 2) pa_nil)))) pa_nil)))) pa_nil)))), ?_⟩
    refine ⟨by show 5 ≤ sizeLine; decide, fun l nl => ?_⟩
    have hp1 := hp.same (same_new (o := .lst [V.int 3, V.int 3, V.int 5, V.int 12, V.int 1000]) nl)
    refine ⟨_, rfl, p, c, 5, rfl, hp1, by decide, by decide, fun d H1 d0 d5 q1 s1 => ?_⟩
    obtain ⟨v, hv, hm⟩ := at_pick (xs := [V.int 3, V.int 3, V.int 5, V.int 12, V.int 1000]) d0 d5
    obtain ⟨f, rfl, f0, f1⟩ : ∃ f : Int, v = .int f ∧ 0 < f ∧ f ≤ 1000 := by
      simp only [List.mem_cons, List.not_mem_nil, or_false] at hm
      rcases hm with rfl | rfl | rfl | rfl | rfl <;> exact ⟨_, rfl, by decide, by decide⟩
    have nlp : l ≠ p ∧ l ≠ c := by
      obtain ⟨z1, z2, z3, z4, z5, _⟩ := hp.ex
      exact ⟨(ne_of_none z4 nl).symm, (ne_of_none z5 nl).symm⟩
    have hl1 : H1 l = some (.lst [V.int 3, V.int 3, V.int 5, V.int 12, V.int 1000]) := (hid_at.mp (s1 l _ (hid_at.mpr ⟨nlp, upd_same⟩))).2
    have sA : Same (hid H p c) (hid H1 p c) := (hid_new nl).trans s1
    refine ⟨l, _, d, _, rfl, rfl, SqL.of hl1, hv, ?_⟩
    refine ⟨_, rfl, _, rfl, p, c, m, rfl, q1, m0, by omega, fun e H2 e0 em q2 s2 => ⟨_, _, rfl, rfl, 1 + e, rfl, by omega, by omega, fun D nD => ?_⟩⟩
    have sB := sA.trans s2
    have nDp : D ≠ p ∧ D ≠ c := by
      obtain ⟨z1, z2, z3, z4, z5, _⟩ := q2.ex
      exact ⟨(ne_of_none z4 nD).symm, (ne_of_none z5 nD).symm⟩
    have hidD : hid H p c D = none := by
      cases z : hid H p c D with
      | none => rfl
      | some u =>
        have y := (hid_at.mp (sB D u z)).2
        rw [nD] at y
        cases y
    refine lc_range (lo := 0) (n := (1 + e).toNat) (fun i H3 => PoolAt H3 p c ∧ Same (hid H p c) (hid H3 p c) ∧ ∃ (acc : List V) (ps : List (Int × Int)), H3 D = some (.lst acc) ∧ ps.length = i ∧ PairsAt H3 acc ps ∧ ∀ q ∈ ps, (1 ≤ q.1 ∧ q.1 ≤ 1000) ∧ 1 ≤ q.2 ∧ q.2 ≤ 1000)
      ⟨q2.same (same_new nD), sB.trans (hid_new nD), [], [], upd_same, rfl, .nil, fun q z => absurd z (by simp)⟩ ?_ ?_
    · rintro i H3 hi ⟨q3, s3, acc, ps, hD, hl, hP, hB⟩
      refine ⟨rfl, _, rfl, _, rfl, p, c, f, rfl, q3, f0, by omega, fun x H4 x0 xf q4 s4 => ⟨_, _, rfl, rfl, ?_⟩⟩
      refine ⟨_, rfl, _, rfl, p, c, f, rfl, q4, f0, by omega, fun y H5 y0 yf q5 s5 => ⟨_, _, rfl, rfl, by show 2 ≤ sizeLine; decide, fun t nt => ?_⟩⟩
      have hD5 : H5 D = some (.lst acc) := (hid_at.mp (s5 D _ (s4 D _ (hid_at.mpr ⟨nDp, hD⟩)))).2
      have tD : D ≠ t := ne_of_none hD5 nt
      have hP5 := (hP.mono (tups_hid q3 s4)).mono (tups_hid q4 s5)
      have q6 := q5.same (same_new (o := .tup [V.int (1 + x), V.int (1 + y)]) nt)
      have hD6 : (upd H5 t (.tup [V.int (1 + x), V.int (1 + y)])) D = some (.lst acc) := by rw [upd_ne tD]; exact hD5
      have hP6 := hP5.mono (tups_same (same_new (o := .tup [V.int (1 + x), V.int (1 + y)]) nt))
      refine ⟨acc, hD6, (by have z := hP.length; rw [sizeLine_eq]; omega), ?_, ?_, acc ++ [.ref t], ps ++ [(1 + x, 1 + y)], upd_same, by rw [List.length_append, List.length_singleton, hl], ?_, ?_⟩
      · exact q6.off nDp
      · exact same_off ((s3.trans (s4.trans s5)).trans (hid_new nt)) hidD
      · exact (hP6.mono (tups_upd hD6)).snoc (by rw [upd_ne tD.symm, upd_same])
      · intro q hq
        rcases List.mem_append.mp hq with hq | hq
        · exact hB q hq
        · obtain rfl := List.mem_singleton.mp hq
          refine ⟨⟨?_, ?_⟩, ?_, ?_⟩ <;> simp only <;> omega
    · rintro H3 ⟨q3, s3, acc, ps, hD, hl, hP, hB⟩
      refine ⟨D, acc, rfl, .inl ⟨SqL.of hD, fun l nl => ?_⟩⟩
      have q4 := q3.same (same_new (o := .tup acc) nl)
      refine k l ps _ q4 (s3.trans (hid_new nl)) (.tup (SqT.of (hid_tup q4 upd_same)) ((hP.mono (tups_same (same_new nl))).hid q4).dp) ?_ ?_ hB
      · rw [hl]; omega
      · rw [hl]; omega
def dueV : Option Int → V
  | none => .non
  | some z => .int z
def spDue (K : PySem.W.Frag) : Sp := fun vs H Q _ => ∃ (v : V) (d : PyData), vs = [v] ∧ Dp K H v d ∧ ∀ H', Same H H' → Q (dueV (dueD d)) H'
theorem scDue : FnScope ["thing", "number", "size", "one"] ["thing"] (defScope sDue) := ⟨rfl, rfl, rfl, by decide +kernel, rfl, by decide +kernel, by decide +kernel⟩
theorem ok_due {f f1 : Addr} {fd fd1 : FuncData} (F : Fun K "_law_due" "_law_due" sDue f fd) (N : Nm mg)
    (G1 : FnOk P w K mg base CX0 1 f1 fd1 ["thing", "least", "most"] (spIntFrom K)) (m1 : mg "_law_is_int" = some (.ref f1)) (k1 : PySem.W.keepIn K (.ref f1) = true) (b1 : Binds K fd1 ["thing", "least", "most"] []) : FnOk P w K mg base CX0 2 f fd ["thing"] (spDue K) := by
  refine F.ok scDue (fun vs H Q E h => ?_) (fun cdv A outer s H vs Q E hr h => ?_)
  · obtain ⟨v, d, rfl, _⟩ := h
    rfl
  · obtain ⟨v, d, rfl, hd, k⟩ := h
    refine ⟨_, pss_cons (ps_if (PW.pt (pw_or (pt_not (pt_val (pe_callB call_isi (by rfl) N.isinstance (by decide +kernel) (pa_cons (pv 0) (pa_cons (pe_bltn (v := .ty "tuple") (by rfl) N.tuple (by decide +kernel) rfl) pa_nil)))))
        (pw_or1 (pt_not (pt_chain op_lt op_lt pe_int (pe_callB call_len_seq (by rfl) N.len PySem.boot_len (pa_cons (pv 0) pa_nil)) pe_int)))))
        (pss_one (ps_ret (pe_un un_neg pe_int))) pss_nil)
      (pss_cons (ps_for PassesOwn.never rfl (pi_enumT (by rfl) N.enumerate (pa_cons (pv 0) pa_nil)) (pg_tup rfl (pgs_cons (pg_name (i := 1) scDue.nd rfl (.inl rfl)) (pgs_cons (pg_name (i := 2) scDue.nd rfl (.inl rfl)) pgs_nil)))
        (pss_one (ps_if (PW.pt (pw_or (pt_not (pt_val (pe_callB call_isi (by rfl) N.isinstance (by decide +kernel) (pa_cons (pv 2) (pa_cons (pe_bltn (v := .ty "tuple") (by rfl) N.tuple (by decide +kernel) rfl) pa_nil)))))
          (pw_or (pt_cmpR op_ne (pe_callB call_len_seq (by rfl) N.len PySem.boot_len (pa_cons (pv 2) pa_nil)) pe_int (nomark _))
          (pw_or1 (pt_not (pt_val (pe_callB (cr_all rfl) (by rfl) N.all (by decide +kernel) (pa_cons
            (pe_lc (own := [("one", 3)]) (g := gName 3) (tt := tYes) (by rfl) scDue.nd (pi_tup (pv 2)) (blkOk_by (N := ["thing", "number", "size", "one"]) (sc := defScope sDue) (by decide +kernel))
              (fun _ _ _ _ _ => pg_name (i := 3) scDue.nd rfl (Or.inl rfl)) (fun _ _ _ _ _ => pts_nil)
              (fun _ _ _ _ _ => pe_call G1 hr (by rfl) m1 k1 b1 .nil pass0 (pa_cons (pv 3) (pa_cons pe_int (pa_cons pe_int pa_nil))))) pa_nil))))))))
          (pss_one (ps_ret (pv 1))) pss_nil)))
      (pss_one (ps_ret pe_non))), ?_⟩
    refine ⟨_, rfl, _, _, _, _, _, rfl, .ty "tuple", ty_dp hd, kit_ty (kit_tup d), _, rfl, ?_⟩
    by_cases hT : isT d = true
    case neg =>
      have hT' : isT d = false := by simpa using hT
      have dueN : dueD d = some (-1) := by
        cases d <;> first | rfl | exact absurd rfl hT
      refine yes_of (by rw [hT'] <;> rfl) (yes_of rfl ?_)
      have z := k H (Same.refl H)
      rw [dueN] at z
      exact ⟨_, rfl, z⟩
    case pos =>
      refine no_of (by rw [hT] <;> rfl) ?_
      cases hd with
      | tup q r =>
        rename_i a xs ds
        have lx := len_dp r
        have bad1 : ¬ (0 < ds.length ∧ ds.length < 41) → dueD (.tuple ds) = some (-1) := fun z => if_neg z
        refine ⟨_, rfl, a, xs, rfl, .inr q, _, _, rfl, rfl, _, rfl, ?_⟩
        by_cases c1 : (0 : Int) < ((xs.length : Nat) : Int)
        case neg =>
          refine no_of (decide_eq_false c1) ⟨_, rfl, yes_of rfl ?_⟩
          have z := k H (Same.refl H)
          rw [bad1 (by omega)] at z
          exact ⟨_, rfl, z⟩
        case pos =>
          refine yes_of (decide_eq_true c1) ⟨_, _, rfl, rfl, _, rfl, ?_⟩
          by_cases c2 : ((xs.length : Nat) : Int) < 41
          case neg =>
            refine yes_of (by rw [decide_eq_false c2] <;> rfl) ?_
            have z := k H (Same.refl H)
            rw [bad1 (by omega)] at z
            exact ⟨_, rfl, z⟩
          case pos =>
            refine no_of (by rw [decide_eq_true c2] <;> rfl) ?_
            have due1 : dueD (.tuple ds) = firstBad ds 0 := if_pos (by omega)
            refine ⟨_, rfl, a, xs, rfl, q, for_it walk_enumT (fun i σ H' => ∃ (v1 v2 : Option V), σ = [some (.ref a), v1, v2, none] ∧ Same H H' ∧ firstBad ds 0 = firstBad (ds.drop i) i)
              ⟨none, none, rfl, Same.refl H, rfl⟩ (fun i σ H' _ ⟨_, _, _, z, _⟩ => seqT_up z q) ?_ ?_⟩
            · rintro i y σ H1 H2 hi ⟨v1, v2, rfl, s1, fb⟩ ⟨T1, y1, y2, rfl, nT, rfl, e1, e2⟩
              have e1 := Option.some.inj e1
              subst e1
              obtain ⟨dy, hdy, qy⟩ := dp_mem r e2
              have s2 : Same H (upd H1 T1 (.tup [.int (i : Nat), y2])) := s1.trans (same_new nT)
              have qy2 := dp_up s2 _ _ qy
              refine ⟨T1, _, rfl, SqT.of upd_same, rfl, _, _, rfl, _, _, rfl, rfl, ?_⟩
              revert s2 qy2
              generalize upd H1 T1 (.tup [.int (i : Nat), y2]) = H2
              intro s2 qy2
              rw [firstBad_at hdy] at fb
              have bad : ∀ H3, Same H H3 → sizeOk dy = false → Q (.int (i : Nat)) H3 := fun H3 s3 z => by
                rw [z, if_neg Bool.false_ne_true] at fb
                have y := k H3 s3
                rw [due1.trans fb] at y
                exact y
              refine ⟨_, rfl, _, _, _, _, _, rfl, .ty "tuple", ty_dp qy2, kit_ty (kit_tup dy), _, rfl, ?_⟩
              by_cases hS : isT dy = true
              case neg =>
                have hS' : isT dy = false := by simpa using hS
                refine yes_of (by rw [hS'] <;> rfl) (yes_of rfl ⟨_, rfl, bad _ s2 ?_⟩)
                cases dy <;> first | rfl | exact absurd rfl hS
              case pos =>
                refine no_of (by rw [hS] <;> rfl) ?_
                cases qy2 with
                | tup q5 r5 =>
                  rename_i b ys es
                  have ly := len_dp r5
                  refine ⟨_, rfl, b, ys, rfl, .inr q5, rfl, _, rfl, ?_⟩
                  by_cases c3 : es.length = 2
                  case neg =>
                    refine yes_of (by rw [Bool.not_eq_true']; exact decide_eq_false fun z => c3 (by have := V.int.inj z; omega)) (yes_of rfl ⟨_, rfl, bad _ s2 ?_⟩)
                    show (decide (es.length = 2) && _) = false
                    rw [decide_eq_false c3] <;> rfl
                  case pos =>
                    refine no_of (by rw [Bool.not_eq_false']; exact decide_eq_true (by rw [ly, c3]; rfl)) ?_
                    refine ⟨_, rfl, b, rfl, ⟨_, q5⟩, fun D nD => lc_tup (K := K) (a := b) (xs := ys) (fun j H4 => Same H2 H4 ∧ H4 D = some (.lst ((es.take j).map fun d => V.bl (intIn 1 1000 d)))) ⟨same_new nD, upd_same⟩ (fun j H4 _ z => seqT_up z.1 q5) ?_ ?_⟩
                    · rintro j u H4 hj ⟨t1, t2⟩
                      obtain ⟨du, hdu, qu⟩ := dp_mem r5 hj
                      refine ⟨rfl, _, rfl, u, du, 1, 1000, rfl, dp_up t1 _ _ qu, _, t2, small1000 (by rw [List.length_map, List.length_take]; omega), ?_, ?_⟩
                      · intro b o z
                        rw [upd_ne (ne_of_none z nD)]
                        exact t1 b o z
                      · rw [upd_same, take_at hdu, List.map_append]
                        rfl
                    · rintro H4 ⟨t1, t2⟩
                      refine ⟨D, (es.take ys.length).map (intIn 1 1000), rfl, SqL.of (by rw [t2, List.map_map]; rfl), _, rfl, ?_⟩
                      have z : ((es.take ys.length).map (intIn 1 1000)).all id = sizeOk (.tuple es) := by
                        rw [ly, List.take_length]
                        show _ = (decide (es.length = 2) && es.all (intIn 1 1000))
                        rw [decide_eq_true c3, Bool.true_and, List.all_map]
                        rfl
                      rw [z]
                      cases ok : sizeOk (.tuple es) with
                      | true =>
                        rw [ok, if_pos rfl] at fb
                        exact no_of rfl ⟨_, _, rfl, s2.trans t1, fb⟩
                      | false => exact yes_of rfl ⟨_, rfl, bad _ (s2.trans t1) ok⟩
                | _ => exact absurd (show false = true from hS) Bool.false_ne_true
            · rintro σ H1 ⟨v1, v2, rfl, s1, fb⟩
              rw [lx, List.drop_length] at fb
              have z := k H1 s1
              rw [due1.trans fb] at z
              exact z
      | _ => exact absurd (show false = true from hT) Bool.false_ne_true
end
end My

set_option maxRecDepth 100000
set_option maxHeartbeats 4000000
namespace GL
open PySem PySem.Spec PyProof.Rows L2
/-! ### a class made where what is raised is wished for at the caller's slots; isinstance of a held error that has its dict; an own == -/
section
variable {X : Cx} {CX : CXT} {k : Nat} {f C : Addr} {fd : FuncData} {ps : List Str} {sp : Sp} {E : L2.St → XK} {x : Str} {p pos : Pos} {e : Expr} {es : List Expr} {t : TA}
def tMakeS (C : Addr) (sp : Sp) (E : L2.St → XK) (t : TA) : TE := fun σ H Q => t σ H fun vs H1 => ∀ y dx, H1 y = none → H1 dx = none → dx ≠ y →
  sp (.ref y :: vs) (upd (upd H1 dx (.own y)) y (.ins C dx [])) (fun v H2 => v = .non ∧ Q (.ref y) H2) (E σ)
theorem pe_makeS (M : Mk X.K C f) (F : FnOk X.prog X.w X.K X.mg X.base CX k f fd ps sp) (hr : Room (k + 1) X.A) (gl : Gl X x) (hm : X.mg x = some (.ref C)) (hb : Binds X.K fd ps []) (hx : ∀ σ, PassesAt CX X σ (E σ))
    (ha : PA X (e :: es) t) (hdb : (x == ("__debug__" : Str)) = false := by decide) (he : starEach (e :: es) X.env = (false, eval e X.env) :: starEach es X.env := by rfl)
    (hpl : (backTo pos (starEach es X.env)).any (·.1) = false := by rfl) : PE X (.Call (.Name x p) (e :: es) [] pos) (tMakeS C sp E t) := by
  constructor
  intro pins s σ H Q I h
  refine wpAny_Call_Name_kw (ld_glob I gl hm ?_ hdb)
  refine PySem.W.callWith_K (h₀ := X.base) I.ok.mod.kin M.kp ?_ he hpl
  refine thn (ha.run pos pins s σ H _ I h) ?_
  rintro us s1 ⟨vs, H1, I1, rv, q⟩
  refine ⟨I1.kIn, ?_⟩
  show wpAny _ _ (call (.ref C) us) _ _ _
  have go := q (s1.heap.objs.size + 1) s1.heap.objs.size (I1.hok.fresh (Nat.le_succ _)) (I1.hok.fresh (Nat.le_refl _)) (Nat.ne_of_lt (Nat.lt_succ_self _))
  have J := Inv.made (C := C) I1
  have r2 : Vals (V.ref (s1.heap.objs.size + 1) :: vs) (Value.ref (s1.heap.objs.size + 1) :: us) := .cons rfl rv
  have nl : (Value.ref (s1.heap.objs.size + 1) :: us ++ []).length = ps.length := by
    rw [List.append_nil, ← r2.length]
    exact F.len _ _ _ _ go
  have bb := hb _ (Value.ref (s1.heap.objs.size + 1) :: us) J.kIn nl
  rw [List.append_nil] at bb
  refine wpAny_call (make_map (f := f) I1.kIn M.makes M.init (beq_iff_eq.mp M.fn) (codeAny_mono (F.run _ X.stack _ _ ⟨Value.ref (s1.heap.objs.size + 1) :: us, []⟩ _ _ _ (E σ) (hr.make C us []) (J.env0.make C us []) bb r2 go) ?_))
  intro r s2 z
  cases r with
  | error e => exact hx σ pins _ _ e s2 J z
  | ok fl =>
    cases fl with
    | ret u =>
      obtain ⟨v, H2, I2, rv, rfl, q2⟩ := J.after z
      exact ⟨rv, .ref (s1.heap.objs.size + 1), H2, I2, rfl, q2⟩
    | next => exact z.elim
    | brk => exact z.elim
    | cont => exact z.elim
def rIsED (K : PySem.W.Frag) (D a : Addr) (cls : Value) (d : Option Addr) : List V → Hp → VK → Prop := fun xs H Q => ∃ (c : V) (cv : Value) (b : Bool) (dd : Addr) (fs : List (Str × V)),
  xs = [.ref a, c] ∧ ClsV c cv ∧ cls = .ref D ∧ d = some dd ∧ H dd = some (.xd fs) ∧ PySem.W.kitOne K (.ref D) cv = some b ∧ Q (.bl b) H
theorem call_isED {a D : Addr} {oe : Obj} {cls : Value} {d : Option Addr} {pn : List (Addr × Obj)} (T : L2.ExcC X.K D) (hz : Zc cls d oe) (hf : ∃ vs, oe.data = .fields vs) : CallR (X.suite a ((a, oe) :: pn)) (.builtin "isinstance") (rIsED X.K D a cls d) := by
  intro pins s σ H xs us Q I r h
  obtain ⟨c, cv, b, dd, fs, rfl, kc, rfl, rfl, hd, ek, q⟩ := h
  obtain ⟨u1, u2, rfl, r1, r2⟩ := vals2 r
  obtain rfl : u1 = Value.ref a := r1
  obtain rfl := kc.eq r2
  obtain ⟨ha, _⟩ := I.pin (a, oe) (List.mem_append_left _ List.mem_cons_self)
  obtain ⟨vs, hv⟩ := hf
  obtain ⟨mA, hns, _⟩ := (show ObjOk X.prog X.w H s.heap dd (.xd fs) from I.hok dd _ hd)
  obtain ⟨od, ho, _⟩ := lookIn_ns hns
  have J : PySem.W.InstAt s.heap a oe D (some od) := ⟨ha, hz.1, by unfold PySem.W.notCls; rw [hv] <;> rfl, by rw [hz.2]; exact ho⟩
  have cls0 : (PySem.W.clsIn X.K D).isSome = true := by
    obtain ⟨cd, z, _⟩ := PySem.W.any_some T.hd
    rw [z]
    rfl
  exact PySem.W.kia_one (PySem.W.kitx_exc cls0 T.hg T.hk T.hs T.ha T.hn T.ht T.hm) I.kIn J ek (fun z => nomatch z) fun tk => ⟨.bl b, H, I.tok tk, rfl, q⟩
/-- x == y, x an instance of the class at C whose own == keeps sp -/
def rOwnEq (K : PySem.W.Frag) (C : Addr) (sp : Sp) : R2 := fun x y H Q => ∃ (a dx : Addr) (fs : List (Str × V)) (ty : Value), x = .ref a ∧ H a = some (.ins C dx fs) ∧ TyX K H y ty ∧ PySem.W.notFirst K C ty = true ∧
  sp [x, y] H (fun v H' => ∃ b, v = .bl b ∧ Q v H') E0
theorem op_ownEq (F : FnOk X.prog X.w X.K X.mg X.base CX0 k f fd ps sp) (hs : PySem.W.findIn X.K (.ref C) "__eq__" = some (some (.ref f))) (hf : PySem.W.isFn X.K (.ref f) = true) (hb : Binds X.K fd ps []) (hr : Room k X.A) : OpR X (compareOp .Eq) (rOwnEq X.K C sp) := by
  intro pins s σ H x y v u Q I rx ry h
  obtain ⟨a, dx, fs, ty, rfl, ha, hy, hn, q⟩ := h
  obtain rfl : v = Value.ref a := rx
  obtain ⟨mA, O, _⟩ := ins_get I.hok ha
  obtain ⟨od, J, _⟩ := O.look
  obtain ⟨PP, Z, pz, _⟩ := kit_of I ry hy
  obtain ⟨m, fr⟩ := I.fr
  show wpAny (model X.prog X.w) X.A (richCompare .Eq (.ref a) u) (EP X pins σ Q) X.xe s
  refine PySem.W.cmp_K (op := .Eq) (tb := ty) hr.units0 fr I.ok.mod.kin J (Z.ty _ _ I.kIn pz) hn hs hf ?_
  refine thn (run_fn (us := [.ref a, u]) (vs := [.ref a, y]) (dvs := []) (ds := []) F hr hb .nil pass0 I (.cons (show RelV (.ref a) (.ref a) from rfl) (.cons ry .nil)) q) ?_
  rintro w1 s1 ⟨v1, H1, I1, r1, b, rfl, q1⟩
  obtain rfl : w1 = Value.bool b := r1
  exact ⟨.bl b, H1, I1, rfl, q1⟩
end
end GL

set_option maxRecDepth 100000
set_option maxHeartbeats 4000000
namespace My
open PySem PySem.Spec PyProof.Rows L2 GL
abbrev sTried : Stmt := topS 20
/-- what isinstance and == ask of the classes -/
structure ITxt (K : PySem.W.Frag) (mg : Str → Option Value) (C CB CS : Addr) : Prop where
  ca : PySem.W.findIn K (.ref C) "__class__" = some (some (.builtin "object.__class__"))
  cn : PySem.W.specialIn K (.builtin "object.__class__") "__get__" = some (some (.builtin "getset_descriptor.__get__"))
  ct : PySem.W.takesIn K (.builtin "object.__class__") = some true
  cm : PySem.W.mroIn K C (.type "object") = some true
  kT : PySem.W.kitOne K (.type "tuple") (.ref C) = some false
  kI : PySem.W.kitOne K (.type "int") (.ref C) = some false
  nT : PySem.W.notFirst K C (.type "tuple") = true
  nI : PySem.W.notFirst K C (.type "int") = true
  ex : ExcC K CB
  mgS : mg "StrokeError" = some (.ref CS)
  kS : PySem.W.kitOne K (.ref CB) (.ref CS) = some true
  kV : PySem.W.kitOne K (.ref CB) (.type "ValueError") = some true
  te : PySem.W.exmOne K (.ref CB) (.ref CB) = some true
theorem ITxt.ty {K : PySem.W.Frag} {mg : Str → Option Value} {C CB CS fB : Addr} (I : ITxt K mg C CB CS) (T : BTxt K mg C CB fB) {H : Hp} {a dx : Addr} {fs : List (Str × V)} (h : H a = some (.ins C dx fs)) : TyX K H (.ref a) (.ref C) :=
  .base (.ins h T.cl I.ca I.cn I.ct I.cm)
theorem kit_self {K : PySem.W.Frag} {C : Addr} : PySem.W.kitOne K (.ref C) (.ref C) = some true := by
  unfold PySem.W.kitOne
  rw [if_pos (beq_self_eq_true _)]
/-- Boxes.__eq__: another Boxes by its sizes, anything of a kind ty by False -/
def spBoxEq (K : PySem.W.Frag) (C : Addr) : Sp := fun vs H Q _ => ∃ (x dx : Addr) (y a : V) (n : Int) (d : PyData), vs = [.ref x, y] ∧ H x = some (.ins C dx (bfl a n)) ∧ Dp K H a d ∧ SeqAt.shaped d = true ∧
  ((∃ (z dz : Addr) (b : V) (m : Int) (e : PyData), y = .ref z ∧ H z = some (.ins C dz (bfl b m)) ∧ Dp K H b e ∧ SeqAt.shaped e = true ∧ Q (.bl (PyData.eqv d e)) H) ∨
   (∃ ty : Value, TyX K H y ty ∧ PySem.W.kitOne K ty (.ref C) = some false ∧ Q (.bl false) H))
/-- Boxes(thing), or what BadBoxes tells -/
def spTried (K : PySem.W.Frag) (C : Addr) : Sp := fun vs H Q _ => ∃ (v : V) (d : PyData), vs = [v] ∧ Dp K H v d ∧
  (dueD d = none → ∀ (ds : List PyData) (x dx : Addr) (H' : Hp), d = .tuple ds → Same H H' → H x = none → H' x = some (.ins C dx (bfl v (ds.length : Int))) → Q (.ref x) H') ∧
  (∀ z, dueD d = some z → ∀ (t : Addr) (H' : Hp), Same H H' → H' t = some (.tup [.str "bad", .int z]) → Q (.ref t) H')
section
variable {P : Program} {w : World} {K : PySem.W.Frag} {mg : Str → Option Value} {base : Heap} {C CB CS fB : Addr}
theorem scBoxEq : FnScope ["self", "other"] ["self", "other"] (defScope sBoxEq) := ⟨rfl, rfl, rfl, by decide +kernel, rfl, by decide +kernel, by decide +kernel⟩
theorem ok_boxEq {f : Addr} {fd : FuncData} (F : Fun K "__eq__" "Boxes.__eq__" sBoxEq f fd) (N : Nm mg) (T : BTxt K mg C CB fB) (J : ITxt K mg C CB CS) : FnOk P w K mg base CX0 1 f fd ["self", "other"] (spBoxEq K C) := by
  refine F.ok scBoxEq (fun vs H Q E h => ?_) (fun cdv A outer s H vs Q E hr h => ?_)
  · obtain ⟨x, dx, y, a, n, d, rfl, _⟩ := h
    rfl
  · obtain ⟨x, dx, y, a, n, d, rfl, hx, hd, sd, hy⟩ := h
    refine ⟨_, pss_one (ps_ret (pe_and (pe_callB call_isi (by rfl) N.isinstance (by decide +kernel) (pa_cons (pv 1) (pa_cons (pe_glob (v := .ref C) rfl T.mgC rfl) pa_nil)))
      (pe_one (pe_cmpR (op_eqD hr.units) (pe_fld (pv 0) rfl) (pe_fld (pv 1) rfl) (nomark _))))), ?_⟩
    rcases hy with ⟨z, dz, b, m, e, rfl, hz, he, se, k⟩ | ⟨ty, hty, kt, k⟩
    · refine ⟨_, rfl, _, _, _, _, _, rfl, .own C, J.ty T hz, kit_self, _, rfl, yes_of rfl ?_⟩
      exact ⟨_, rfl, x, C, dx, _, _, rfl, hx, T.cl, T.nS, bfl_sizes _ _, _, rfl, z, C, dz, _, _, rfl, hz, T.cl, T.nS, bfl_sizes _ _, d, e, hd, he, sd, se, k⟩
    · exact ⟨_, rfl, _, _, _, _, _, rfl, .own C, hty, kt, _, rfl, no_of rfl k⟩
theorem scTried : FnScope ["thing", "found", "e"] ["thing"] (defScope sTried) := ⟨rfl, rfl, rfl, by decide +kernel, rfl, by decide +kernel, by decide +kernel⟩
theorem ok_tried {f fI : Addr} {fd fdI : FuncData} (F : Fun K "_law_tried" "_law_tried" sTried f fd) (N : Nm mg) (T : BTxt K mg C CB fB) (J : ITxt K mg C CB CS) (M : Mk K C fI) (X0 : XfC K CB)
    (GI : FnOk P w K mg base (L2.CX P w) 4 fI fdI ["self", "sizes"] (spBox K C CB)) (bI : Binds K fdI ["self", "sizes"] []) : FnOk P w K mg base CX0 6 f fd ["thing"] (spTried K C) := by
  refine F.ok scTried (fun vs H Q E h => ?_) (fun cdv A outer s H vs Q E hr h => ?_)
  · obtain ⟨v, d, rfl, _⟩ := h
    rfl
  · obtain ⟨v, d, rfl, hd, k1, k2⟩ := h
    refine ⟨_, pss_cons (ps_set (i := 1) scTried.nd rfl (.inl rfl) pe_str)
      (pss_cons (ps_try_as (i := 2) (tb := fun W => tAsg (tMakeS C (spBox K C CB) (WE W) (tCons (tVar 0) tNil)) (gName 1)) (Wout := fun _ _ _ _ => False) rfl rfl scTried.nd rfl rfl ⟨rfl, by decide, Or.inl T.mgB⟩ takes0
          (fun W pn xe tk _ => pss_one (ps_set (i := 1) scTried.nd rfl (.inl rfl) (by exact (pe_makeS M GI hr rfl T.mgC bI (fun σ => passAt tk σ) (by exact (pa_cons (pv 0) pa_nil))))))
          (fun a oe cls d pn hz hf => pss_one (ps_set (i := 1) scTried.nd rfl (.inl rfl) (pe_ifExp (PW.pt (pw_and (pt_val (pe_callB (call_isED J.ex hz hf) (by rfl) N.isinstance (by decide +kernel) (pa_cons (pv 2) (pa_cons (pe_glob (v := .ref CS) rfl J.mgS rfl) pa_nil))))
              (pw_and1 (pt_val (pe_callB (call_isED J.ex hz hf) (by rfl) N.isinstance (by decide +kernel) (pa_cons (pv 2) (pa_cons (pe_bltn (v := .ty "ValueError") (by rfl) N.valueError (by decide +kernel) rfl) pa_nil)))))))
            (pe_tup (pa_cons pe_str (pa_cons (pe_xf X0 T.noP hz hf (pv 2)) pa_nil))) pe_str))))
      (pss_one (ps_ret (pv 1)))), ?_⟩
    refine ⟨_, rfl, fun x dx nx ndx nex => ?_⟩
    have sm : Same H (upd (upd H dx (.own x)) x (.ins C dx [])) := fun b o e => by
      rw [upd_ne (ne_of_none e nx), upd_ne (ne_of_none e ndx)]
      exact e
    refine ⟨x, dx, v, d, rfl, upd_same, dp_up sm _ _ hd, fun z hz dd H1 s1 h1 h2 => ?_, fun hN ds H1 ed s1 h1 => ⟨rfl, ?_⟩⟩
    · refine ⟨true, J.te, fun _ a na => ?_, fun q => Bool.noConfusion q⟩
      refine ⟨_, rfl, _, _, _, _, _, rfl, .own CS, rfl, rfl, h1, J.kS, _, rfl, yes_of rfl ?_⟩
      refine ⟨_, rfl, _, _, _, _, _, rfl, .ty "ValueError", rfl, rfl, h1, J.kV, _, rfl, yes_of rfl ?_⟩
      refine ⟨_, rfl, rfl, rfl, dd, _, V.int z, rfl, h1, by simp [List.lookup], by show 2 ≤ sizeLine; decide, fun t nt => ?_⟩
      exact ⟨_, rfl, k2 z hz t _ ((sm.trans s1).trans (same_new nt)) upd_same⟩
    · refine ⟨_, rfl, k1 hN ds x dx H1 ed (fun b o e => s1 b o (sm b o e) (ne_of_none e nx)) nx h1⟩
end
end My

set_option maxRecDepth 100000
set_option maxHeartbeats 4000000
namespace GL
open PySem PySem.Spec PyProof.Rows L2
section
variable {X : Cx}
/-- t + u of tuples, any: some tuple of all items -/
theorem op_catU : OpR X (binaryOp .Add) (fun x y H Q => ∃ a b xs ys, x = .ref a ∧ y = .ref b ∧ SqT X.K H a xs ∧ SqT X.K H b ys ∧ xs.length + ys.length ≤ sizeLine ∧ ∀ (p : Addr) (H' : Hp), Same H H' → SqT X.K H' p (xs ++ ys) → Q (.ref p) H') := by
  rintro pins s σ H x y v u Q I rx ry ⟨a, b, xs, ys, rfl, rfl, ha, hb, hz, k⟩
  refine op_catA pins s σ H _ _ v u Q I rx ry ⟨a, b, xs, ys, rfl, rfl, ha, hb, hz, fun e => ?_, fun _ e => ?_, fun _ _ p np => k p _ (fun c o z => by rw [upd_ne (ne_of_none z np)]; exact z) (SqT.of upd_same)⟩
  · subst e
    exact k b H (Same.refl H) hb
  · subst e
    refine k a H (Same.refl H) ?_
    rw [List.append_nil]
    exact ha
/-- a slice of a tuple, any: some tuple of the items cut -/
theorem sl_tupU : SlR X (fun x lo hi H Q => ∃ a xs, x = .ref a ∧ SqT X.K H a xs ∧ ∀ (p : Addr) (H' : Hp), Same H H' → SqT X.K H' p (cutV xs lo hi) → Q (.ref p) H') := by
  rintro pins s σ H x v vl vu lo hi sl Q I rx hs pl pu ⟨a, xs, rfl, ha, k⟩
  refine sl_tupA pins s σ H _ v vl vu lo hi sl Q I rx hs pl pu ⟨a, xs, rfl, ha, fun e => ?_, fun _ p np => k p _ (fun c o z => by rw [upd_ne (ne_of_none z np)]; exact z) (SqT.of upd_same)⟩
  refine k a H (Same.refl H) ?_
  have z : cutV xs lo hi = xs := by
    unfold cutV
    rw [e.1, e.2, List.drop_zero, Nat.sub_zero, List.take_length]
  rw [z]
  exact ha
end
theorem cut_mem {xs : List V} {lo hi : Option Int} {v : V} (h : v ∈ cutV xs lo hi) : v ∈ xs := List.mem_of_mem_drop (List.mem_of_mem_take h)
end GL
namespace My
open PySem PySem.Spec PyProof.Rows L2 GL
abbrev sBent : Stmt := topS 21
/-! ### bent sizes -/
section
variable {K : PySem.W.Frag} {p c : Addr} {H H' : Hp}
/-- an item of what is bent -/
def IV (K : PySem.W.Frag) (p c : Addr) (H : Hp) (u : V) : Prop := ∃ d, Dp K (hid H p c) u d ∧ Nice 37 213 d ∧ ∀ ds, d = .tuple ds → ds.length = 2 → ∀ x ∈ ds, Nice 36 70 x
/-- what may stand in an item's place or in it -/
def OV (K : PySem.W.Frag) (p c : Addr) (H : Hp) (u : V) : Prop := ∃ d, Dp K (hid H p c) u d ∧ Nice 36 70 d ∧ ∀ ds, d = .tuple ds → ds = [.int 1]
/-- a part of an item -/
def EV (K : PySem.W.Frag) (p c : Addr) (H : Hp) (u : V) : Prop := ∃ d, Dp K (hid H p c) u d ∧ Nice 36 70 d
/-- what is bent -/
def TV (K : PySem.W.Frag) (p c : Addr) (H : Hp) (v : V) : Prop :=
  (∃ a xs, v = .ref a ∧ SqT K (hid H p c) a xs ∧ xs.length ≤ 41 ∧ ∀ u ∈ xs, IV K p c H u) ∨ ∃ d, Dp K (hid H p c) v d ∧ isT d = false ∧ Nice 40 9000 d
theorem IV.up {u : V} (h : IV K p c H u) (e : Same (hid H p c) (hid H' p c)) : IV K p c H' u := by
  obtain ⟨d, h1, h2⟩ := h
  exact ⟨d, dp_up e _ _ h1, h2⟩
theorem OV.up {u : V} (h : OV K p c H u) (e : Same (hid H p c) (hid H' p c)) : OV K p c H' u := by
  obtain ⟨d, h1, h2⟩ := h
  exact ⟨d, dp_up e _ _ h1, h2⟩
theorem OV.iv {u : V} (h : OV K p c H u) : IV K p c H u := by
  obtain ⟨d, h1, h2, h3⟩ := h
  exact ⟨d, h1, h2.mono (by decide) (by decide), fun ds e n => by
    rw [h3 ds e] at n
    exact absurd n (by decide)⟩
theorem dps_of {G : Hp} {W : PyData → Prop} : ∀ {xs : List V}, (∀ u ∈ xs, ∃ d, Dp K G u d ∧ W d) → ∃ ds, DpAll K G xs ds ∧ ∀ d ∈ ds, W d
  | [], _ => ⟨[], .nil, fun d h => absurd h List.not_mem_nil⟩
  | x :: xs, h => by
    obtain ⟨d, h1, h2⟩ := h x List.mem_cons_self
    obtain ⟨ds, h3, h4⟩ := dps_of fun u hu => h u (List.mem_cons_of_mem _ hu)
    refine ⟨d :: ds, .cons h1 h3, fun e he => ?_⟩
    rcases List.mem_cons.mp he with rfl | he
    · exact h2
    · exact h4 e he
theorem TV.dp {v : V} (h : TV K p c H v) : ∃ d, Dp K (hid H p c) v d ∧ Nice 40 9000 d := by
  rcases h with ⟨a, xs, rfl, h1, h2, h3⟩ | ⟨d, h1, _, h2⟩
  · obtain ⟨ds, h4, h5⟩ := dps_of (W := fun d => Nice 37 213 d) fun u hu => let ⟨d, z1, z2, _⟩ := h3 u hu; ⟨d, z1, z2⟩
    exact ⟨.tuple ds, .tup h1 h4, (nice_tup h5 (n := 41) (by rw [← len_dp h4]; exact h2)).mono (by decide) (by decide)⟩
  · exact ⟨d, h1, h2⟩
theorem TV.up {v : V} (h : TV K p c H v) (e : Same (hid H p c) (hid H' p c)) : TV K p c H' v := by
  rcases h with ⟨a, xs, rfl, h1, h2, h3⟩ | ⟨d, h1, h2⟩
  · exact .inl ⟨a, xs, rfl, seqT_up e h1, h2, fun u hu => (h3 u hu).up e⟩
  · exact .inr ⟨d, dp_up e _ _ h1, h2⟩
theorem seqT_hid {q : Addr} {xs : List V} (h : PoolAt H p c) (z : SqT K H q xs) : SqT K (hid H p c) q xs := by
  have n : ∀ {b : Addr} {o : HO}, H b = some o → (∀ l, o ≠ .lst l) → b ≠ p ∧ b ≠ c := fun {b o} e no => by
    obtain ⟨z1, z2, z3, z4, z5, _⟩ := h.ex
    refine ⟨fun q => ?_, fun q => ?_⟩
    · subst q; rw [e] at z4; exact no _ (Option.some.inj z4)
    · subst q; rw [e] at z5; exact no _ (Option.some.inj z5)
  rcases z with (z | ⟨o, z⟩) | z
  · exact .inl (.inl (hid_tup h z))
  · exact .inl (.inr ⟨o, hid_at.mpr ⟨n z (fun l y => by cases y), z⟩⟩)
  · exact .inr z
theorem EV.up {u : V} (h : EV K p c H u) (e : Same (hid H p c) (hid H' p c)) : EV K p c H' u := by
  obtain ⟨d, h1, h2⟩ := h
  exact ⟨d, dp_up e _ _ h1, h2⟩
theorem OV.ev {u : V} (h : OV K p c H u) : EV K p c H u := by
  obtain ⟨d, h1, h2, _⟩ := h
  exact ⟨d, h1, h2⟩
theorem new_ne {l : Addr} (h : PoolAt H p c) (n : H l = none) : l ≠ p ∧ l ≠ c := by
  obtain ⟨z1, z2, z3, z4, z5, _⟩ := h.ex
  exact ⟨(ne_of_none z4 n).symm, (ne_of_none z5 n).symm⟩
theorem hid_at_new {l : Addr} {o : HO} (h : PoolAt H p c) (n : H l = none) : hid (upd H l o) p c l = some o := hid_at.mpr ⟨new_ne h n, upd_same⟩
theorem seqL_hid {q : Addr} {xs : List V} (h : PoolAt H p c) (z : SqL K H q xs) (n3 : xs.length ≠ 3) (ni : ∀ ns : List Int, xs ≠ ns.map V.int) : SqL K (hid H p c) q xs := by
  obtain ⟨z1, z2, z3, z4, z5, _⟩ := h.ex
  rcases z with (z | ⟨o, z⟩) | z
  · refine .inl (.inl (hid_at.mpr ⟨⟨fun e => ?_, fun e => ?_⟩, z⟩))
    · subst e; rw [z] at z4; cases z4; exact n3 rfl
    · subst e; rw [z] at z5; cases z5; exact ni _ rfl
  · refine .inl (.inr ⟨o, hid_at.mpr ⟨⟨fun e => ?_, fun e => ?_⟩, z⟩⟩)
    · subst e; rw [z] at z4; cases z4
    · subst e; rw [z] at z5; cases z5
  · exact .inr z
theorem deep_ref : ∀ (n : Nat) (v : V), Dp K H v (deepD n) → ∃ b, v = V.ref b
  | 0, _, z => by cases z; exact ⟨_, rfl⟩
  | n + 1, _, z => by cases z; exact ⟨_, rfl⟩
theorem deep_hid (h : PoolAt H p c) : ∀ (n : Nat) (v : V), Dp K H v (deepD n) → Dp K (hid H p c) v (deepD n)
  | 0, _, z => by
    cases z with
    | lst q r =>
      cases r with
      | cons r1 r2 =>
        cases r2
        cases r1
        exact .lst (seqL_hid h q (by simp) (fun ns e => by cases ns <;> cases e)) (.cons .non .nil)
  | n + 1, _, z => by
    cases z with
    | lst q r =>
      cases r with
      | cons r1 r2 =>
        cases r2
        have ih := deep_hid h n _ r1
        obtain ⟨b, rfl⟩ := deep_ref n _ r1
        exact .lst (seqL_hid h q (by simp) (fun ns e => by cases ns <;> cases e)) (.cons ih .nil)
theorem iv_tup {q : Addr} {xs : List V} (h : PoolAt H p c) (z : SqT K H q xs) (hx : ∀ x ∈ xs, EV K p c H x) (hl : xs.length ≤ 3) : IV K p c H (.ref q) := by
  obtain ⟨ds, h1, h2⟩ := dps_of (W := fun d => Nice 36 70 d) hx
  refine ⟨.tuple ds, .tup (seqT_hid h z) h1, (nice_tup h2 (n := 3) (by rw [← len_dp h1]; exact hl)).mono (by decide) (by decide), fun es e _ x hx => ?_⟩
  cases e
  exact h2 x hx
theorem iv_lst {q : Addr} {xs : List V} (z : hid H p c q = some (.lst xs)) (hx : ∀ x ∈ xs, EV K p c H x) (hl : xs.length ≤ 3) : IV K p c H (.ref q) := by
  obtain ⟨ds, h1, h2⟩ := dps_of (W := fun d => Nice 36 70 d) hx
  exact ⟨.list ds, .lst (SqL.of z) h1, (nice_lst h2 (n := 3) (by rw [← len_dp h1]; exact hl)).mono (by decide) (by decide), fun es e => by cases e⟩
theorem tv_tup {q : Addr} {xs : List V} (h : PoolAt H p c) (z : SqT K H q xs) (hx : ∀ x ∈ xs, IV K p c H x) (hl : xs.length ≤ 41) : TV K p c H (.ref q) := .inl ⟨q, xs, rfl, seqT_hid h z, hl, hx⟩
theorem tv_lst {q : Addr} {xs : List V} (z : hid H p c q = some (.lst xs)) (hx : ∀ x ∈ xs, IV K p c H x) (hl : xs.length ≤ 41) : TV K p c H (.ref q) := by
  obtain ⟨ds, h1, h2⟩ := dps_of (W := fun d => Nice 37 213 d) fun u hu => let ⟨d, z1, z2, _⟩ := hx u hu; ⟨d, z1, z2⟩
  exact .inr ⟨.list ds, .lst (SqL.of z) h1, rfl, (nice_lst h2 (n := 41) (by rw [← len_dp h1]; exact hl)).mono (by decide) (by decide)⟩
theorem OV.tv {u : V} (h : OV K p c H u) : TV K p c H u := by
  obtain ⟨d, h1, h2, h3⟩ := h
  cases e : isT d with
  | false => exact .inr ⟨d, h1, e, h2.mono (by decide) (by decide)⟩
  | true =>
    cases h1 with
    | tup q r =>
      have z := h3 _ rfl
      subst z
      cases r with
      | cons r1 r2 =>
        cases r2
        cases r1
        refine .inl ⟨_, _, rfl, q, by decide, fun u hu => ?_⟩
        obtain rfl := List.mem_singleton.mp hu
        exact ⟨.int 1, .int 1, (nice_int (by decide)).mono (by decide) (by decide), fun ds e => by cases e⟩
    | _ => cases e
theorem ev_int {i : Int} (h : i.natAbs < 10 ^ 20) : EV K p c H (.int i) := ⟨.int i, .int i, (nice_int h).mono (by decide) (Nat.le_refl _)⟩
theorem ov_of {u : V} {d : PyData} (h : Dp K (hid H p c) u d) (n : Nice 36 70 d) (t : isT d = false) : OV K p c H u := ⟨d, h, n, fun ds e => by subst e; cases t⟩
end
end My

set_option maxRecDepth 100000
set_option maxHeartbeats 4000000
namespace My
open PySem PySem.Spec PyProof.Rows L2 GL
def spBent (K : PySem.W.Frag) : Sp := fun vs H Q _ => ∃ (p c : Addr) (v : V), vs = [.ref p, v] ∧ PoolAt H p c ∧ TV K p c H v ∧
  ∀ (v' : V) (H' : Hp), PoolAt H' p c → Same (hid H p c) (hid H' p c) → TV K p c H' v' → Q v' H'
theorem tyT {K : PySem.W.Frag} {H : Hp} {a : Addr} {xs : List V} (h : SqT K H a xs) : TyX K H (.ref a) (.type "tuple") := by
  rcases h with (q | ⟨o, q⟩) | ⟨o, its, n, q, hc, _⟩
  · exact .base (.tup q)
  · exact .fTuple q
  · exact .kTuple q hc
section
variable {P : Program} {w : World} {K : PySem.W.Frag} {mg : Str → Option Value} {base : Heap}
theorem scBent : FnScope ["pool", "thing", "at", "odd", "size", "some"] ["pool", "thing"] (defScope sBent) := ⟨rfl, rfl, rfl, by decide +kernel, rfl, by decide +kernel, by decide +kernel⟩
theorem ok_bent {f f1 f2 : Addr} {fd fd1 fd2 : FuncData} (F : Fun K "_law_bent" "_law_bent" sBent f fd) (N : Nm mg)
    (G1 : FnOk P w K mg base CX0 1 f1 fd1 ["pool", "many"] spDraw) (m1 : mg "_law_draw" = some (.ref f1)) (k1 : PySem.W.keepIn K (.ref f1) = true) (b1 : Binds K fd1 ["pool", "many"] [])
    (G2 : FnOk P w K mg base CX0 1 f2 fd2 [] (spDeep K)) (m2 : mg "_law_deep" = some (.ref f2)) (k2 : PySem.W.keepIn K (.ref f2) = true) (b2 : Binds K fd2 [] []) : FnOk P w K mg base CX0 2 f fd ["pool", "thing"] (spBent K) := by
  refine F.ok scBent (fun vs H Q E h => ?_) (fun cdv A outer s H vs Q E hr h => ?_)
  · obtain ⟨p, c, v, rfl, _⟩ := h
    rfl
  · obtain ⟨p, c, v, rfl, hp, hv, k⟩ := h
    refine ⟨_, pss_cons (ps_if (PW.pt (pw_or (pt_not (pt_val (pe_callB call_isi (by rfl) N.isinstance (by decide +kernel) (pa_cons (pv 1) (pa_cons (pe_bltn (v := .ty "tuple") (by rfl) N.tuple (by decide +kernel) rfl) pa_nil)))))
          (pw_or1 (pt_cmpR op_eq (pe_callB call_len_seq (by rfl) N.len PySem.boot_len (pa_cons (pv 1) pa_nil)) pe_int (nomark _))))) (pss_one (ps_ret (pv 1))) pss_nil)
      (pss_cons (ps_set (i := 2) scBent.nd rfl (.inl rfl) (pe_call G1 hr (by rfl) m1 k1 b1 .nil pass0 (pa_cons (pv 0) (pa_cons (pe_callB call_len_seq (by rfl) N.len PySem.boot_len (pa_cons (pv 1) pa_nil)) pa_nil))))
      (pss_cons (ps_set (i := 3) scBent.nd rfl (.inl rfl) (pe_ix ix_list (pe_lst (pa_cons pe_int (pa_cons pe_int (pa_cons pe_int (pa_cons pe_int (pa_cons (pe_un un_neg pe_int) (pa_cons pe_bl (pa_cons pe_non (pa_cons pe_str
            (pa_cons (pe_op op_pow pe_int pe_int) (pa_cons (pe_tup (pa_cons pe_int pa_nil)) (pa_cons (pe_call0 G2 hr (by rfl) m2 k2 b2 .nil pass0) pa_nil))))))))))))
          (pe_call G1 hr (by rfl) m1 k1 b1 .nil pass0 (pa_cons (pv 0) (pa_cons pe_int pa_nil))) (fun _ _ => rfl)))
      (pss_cons (ps_set (i := 4) scBent.nd rfl (.inl rfl) (pe_ix ix_tup (pv 1) (pv 2) (fun _ _ => rfl)))
      (C8.pss_cut (ps_if (PW.pt (pw_and (pt_val (pe_callB call_isi (by rfl) N.isinstance (by decide +kernel) (pa_cons (pv 4) (pa_cons (pe_bltn (v := .ty "tuple") (by rfl) N.tuple (by decide +kernel) rfl) pa_nil))))
          (pw_and1 (pt_cmpR op_eq (pe_callB call_len_seq (by rfl) N.len PySem.boot_len (pa_cons (pv 4) pa_nil)) pe_int (nomark _)))))
        (pss_one (ps_set (i := 4) scBent.nd rfl (.inl rfl) (pe_ix ix_list (pe_lst (pa_cons (pe_tup (pa_cons (pv 3) (pa_cons (pe_ix ix_tup (pv 4) pe_int (fun _ _ => rfl)) pa_nil))) (pa_cons (pe_tup (pa_cons (pe_ix ix_tup (pv 4) pe_int (fun _ _ => rfl)) (pa_cons (pv 3) pa_nil)))
            (pa_cons (pe_op op_catU (pv 4) (pe_tup (pa_cons pe_int pa_nil))) (pa_cons (pe_slice sl_tupU (pv 4) po_none (po_some pe_int)) (pa_cons (pe_callTy call_list_of (by rfl) N.list (by decide +kernel) (pa_cons (pv 4) pa_nil)) (pa_cons (pv 3) pa_nil)))))))
          (pe_call G1 hr (by rfl) m1 k1 b1 .nil pass0 (pa_cons (pv 0) (pa_cons pe_int pa_nil))) (fun _ _ => rfl)))) pss_nil)
      (pss_cons (ps_set (i := 5) scBent.nd rfl (.inl rfl) (pe_op op_rep (pe_lst (pa_cons (pe_op op_catU (pe_op op_catU (pe_slice sl_tupU (pv 1) po_none (po_some (pv 2))) (pe_tup (pa_cons (pv 4) pa_nil))) (pe_slice sl_tupU (pv 1) (po_some (pe_op op_add (pv 2) pe_int)) po_none)) pa_nil)) pe_int))
      (pss_cons (ps_set (i := 5) scBent.nd rfl (.inl rfl) (pe_op op_cat (pv 5) (pe_lst (pa_cons (pe_slice sl_tupU (pv 1) (po_some pe_int) po_none) (pa_cons (pe_callTy call_list_of (by rfl) N.list (by decide +kernel) (pa_cons (pv 1) pa_nil))
          (pa_cons (pe_slice sl_tupU (pe_op op_repT (pv 1) pe_int) po_none (po_some pe_int)) (pa_cons (pe_slice sl_tupU (pe_op op_repT (pv 1) pe_int) po_none (po_some pe_int)) (pa_cons pe_non (pa_cons (pv 3) pa_nil)))))))))
      (pss_one (ps_ret (pe_ix ix_list (pv 5) (pe_call G1 hr (by rfl) m1 k1 b1 .nil pass0 (pa_cons (pv 0) (pa_cons pe_int pa_nil))) (fun _ _ => rfl)))))))))), ?_⟩
    rcases hv with ⟨a, xs, rfl, hS, hl, hI⟩ | ⟨d, hd, hT, hn⟩
    case inr =>
      refine ⟨_, rfl, _, _, _, _, _, rfl, .ty "tuple", ty_dp (dp_up hid_le _ _ hd), kit_ty (kit_tup d), _, rfl, yes_of (by rw [hT] <;> rfl) (yes_of rfl ?_)⟩
      exact ⟨_, rfl, k v H hp (Same.refl _) (.inr ⟨d, hd, hT, hn⟩)⟩
    case inl =>
      have hS0 := seqT_up hid_le hS
      refine ⟨_, rfl, _, _, _, _, _, rfl, .ty "tuple", tyT hS0, kit_ty (kit_tup (.tuple [])), _, rfl, no_of rfl ?_⟩
      refine ⟨_, rfl, a, xs, rfl, .inr hS0, rfl, _, rfl, ?_⟩
      by_cases h0 : xs.length = 0
      case pos =>
        refine yes_of (decide_eq_true (by rw [h0]; rfl)) ?_
        exact ⟨_, rfl, k _ H hp (Same.refl _) (.inl ⟨a, xs, rfl, hS, hl, hI⟩)⟩
      case neg =>
        refine no_of (decide_eq_false fun e => h0 (by have := V.int.inj e; omega)) ?_
        -- at
        refine ⟨_, rfl, _, rfl, a, xs, rfl, .inr hS0, p, c, ((xs.length : Nat) : Int), rfl, hp, by omega, by omega, fun at_ H1 at0 at1 hp1 s1 => ?_⟩
        obtain ⟨j, rfl⟩ : ∃ j : Nat, at_ = (j : Int) := ⟨at_.toNat, by omega⟩
        have hj : j < xs.length := by omega
        -- odd
        refine ⟨_, rfl, _, _, rfl, rfl, ⟨by decide, by decide, by decide⟩, by show 1 ≤ sizeLine; decide, fun t nt => ⟨rfl, fun vd H2 s2 hd => ⟨by show 11 ≤ sizeLine; decide, fun l nl => ?_⟩⟩⟩
        have hp2 := (hp1.same (same_new (o := .tup [V.int 1]) nt)).same s2
        have hp2' := hp2.same (same_new (o := .lst [V.int 0, V.int 1, V.int 1000, V.int 1001, V.int (-1), V.bl true, V.non, V.str "2", V.int (10 ^ (19 : Int).toNat), V.ref t, vd]) nl)
        refine ⟨_, rfl, p, c, 11, rfl, hp2', by decide, by decide, fun n1 H3 n10 n11 hp3 s3 => ?_⟩
        have sA : Same (hid H1 p c) (hid H3 p c) := (((hid_new nt).trans (hid_mono s2)).trans (hid_new nl)).trans s3
        have hl3 := (hid_at.mp (s3 l _ (hid_at_new hp2 nl))).2
        obtain ⟨vo, hvo, mo⟩ := at_pick (xs := [V.int 0, V.int 1, V.int 1000, V.int 1001, V.int (-1), V.bl true, V.non, V.str "2", V.int (10 ^ (19 : Int).toNat), V.ref t, vd]) n10 n11
        have odd : OV K p c H3 vo := by
          have ht3 : hid H3 p c t = some (.tup [V.int 1]) := s3 t _ (hid_new nl t _ (hid_mono s2 t _ (hid_at_new hp1 nt)))
          have hd3 : Dp K (hid H3 p c) vd (deepD 35) := dp_up ((hid_new nl).trans s3) _ _ (deep_hid hp2 35 vd hd)
          simp only [List.mem_cons, List.not_mem_nil, or_false] at mo
          rcases mo with rfl | rfl | rfl | rfl | rfl | rfl | rfl | rfl | rfl | rfl | rfl
          · exact ov_of (.int _) ((nice_int (by decide)).mono (by decide) (by decide)) rfl
          · exact ov_of (.int _) ((nice_int (by decide)).mono (by decide) (by decide)) rfl
          · exact ov_of (.int _) ((nice_int (by decide)).mono (by decide) (by decide)) rfl
          · exact ov_of (.int _) ((nice_int (by decide)).mono (by decide) (by decide)) rfl
          · exact ov_of (.int _) ((nice_int (by decide)).mono (by decide) (by decide)) rfl
          · exact ov_of (.bl _) ((nice_bool true).mono (by decide) (by decide)) rfl
          · exact ov_of .non (nice_none.mono (by decide) (by decide)) rfl
          · exact ov_of (.str _) (by constructor <;> decide +kernel) rfl
          · exact ov_of (.int _) ((nice_int (by decide)).mono (by decide) (by decide)) rfl
          · refine ⟨.tuple [.int 1], .tup (SqT.of ht3) (.cons (.int 1) .nil), (by constructor <;> decide +kernel), fun ds e => ?_⟩
            cases e
            rfl
          · exact ov_of hd3 nice_deep rfl
        refine ⟨l, _, n1, vo, rfl, rfl, SqL.of hl3, hvo, ?_⟩
        -- size = thing[at]
        have sB := s1.trans sA
        have hS3 := seqT_up hid_le (seqT_up sB hS)
        refine ⟨_, rfl, _, rfl, a, xs, (j : Int), xs[j], rfl, rfl, hS3, atI_nat (List.getElem?_eq_getElem hj), ?_⟩
        have hI3 : ∀ u ∈ xs, IV K p c H3 u := fun u hu => (hI u hu).up sB
        have iv0 := hI3 _ (List.getElem_mem hj)
        -- the size is bent, or stays
        refine ⟨fun σ H4 => ∃ v4 : V, σ = [some (.ref p), some (.ref a), some (.int (j : Int)), some vo, some v4, none] ∧ PoolAt H4 p c ∧ Same (hid H3 p c) (hid H4 p c) ∧ IV K p c H4 v4, ?_, ?_⟩
        · generalize xs[j] = v0 at iv0
          obtain ⟨d0, hd0, hn0, hx0⟩ := id iv0
          have stay : ∃ v4 : V, [some (V.ref p), some (.ref a), some (.int (j : Int)), some vo, some v0, none] = [some (.ref p), some (.ref a), some (.int (j : Int)), some vo, some v4, none] ∧ PoolAt H3 p c ∧ Same (hid H3 p c) (hid H3 p c) ∧ IV K p c H3 v4 := ⟨v0, rfl, hp3, Same.refl _, iv0⟩
          refine ⟨_, rfl, _, _, _, _, _, rfl, .ty "tuple", ty_dp (dp_up hid_le _ _ hd0), kit_ty (kit_tup d0), _, rfl, ?_⟩
          cases hd0 with
          | tup q0 r0 =>
            rename_i b ys es
            have ly := len_dp r0
            have q0' := seqT_up hid_le q0
            refine yes_of rfl ⟨_, rfl, b, ys, rfl, .inr q0', rfl, _, rfl, ?_⟩
            by_cases h2 : es.length = 2
            case neg => exact no_of (decide_eq_false fun e => h2 (by have := V.int.inj e; omega)) stay
            case pos =>
              refine yes_of (decide_eq_true (by rw [ly, h2]; rfl)) ?_
              have nx := hx0 es rfl h2
              obtain ⟨y0, y1, rfl⟩ : ∃ y0 y1, ys = [y0, y1] := by
                match ys, ly.trans h2 with
                | [y0, y1], _ => exact ⟨y0, y1, rfl⟩
              obtain ⟨e0, e1, rfl⟩ : ∃ e0 e1, es = [e0, e1] := by
                match es, h2 with
                | [e0, e1], _ => exact ⟨e0, e1, rfl⟩
              have ev0 : EV K p c H3 y0 := by
                cases r0 with
                | cons r1 r2 => exact ⟨e0, r1, nx _ (by simp)⟩
              have ev1 : EV K p c H3 y1 := by
                cases r0 with
                | cons r1 r2 =>
                  cases r2 with
                  | cons r3 r4 => exact ⟨e1, r3, nx _ (by simp)⟩
              -- the six
              refine ⟨_, rfl, _, rfl, b, _, 1, y1, rfl, rfl, q0', rfl, by show 2 ≤ sizeLine; decide, fun t1 g1 => ?_⟩
              have u1 := same_new (o := .tup [vo, y1]) g1
              refine ⟨_, rfl, b, _, 0, y0, rfl, rfl, seqT_up u1 q0', rfl, _, rfl, by show 2 ≤ sizeLine; decide, fun t2 g2 => ?_⟩
              have u2 := u1.trans (same_new (o := .tup [y0, vo]) g2)
              refine ⟨_, rfl, by show 1 ≤ sizeLine; decide, fun t3 g3 => ?_⟩
              have u3 := u2.trans (same_new (o := .tup [V.int 1]) g3)
              refine ⟨b, t3, _, _, rfl, rfl, seqT_up u3 q0', SqT.of upd_same, by show 3 ≤ sizeLine; decide, fun t4 H4 w4 z4 => ?_⟩
              have u4 := u3.trans w4
              refine ⟨_, rfl, _, rfl, b, _, rfl, seqT_up u4 q0', fun t5 H5 w5 z5 => ?_⟩
              have u5 := u4.trans w5
              refine ⟨_, rfl, b, _, rfl, .inr (seqT_up u5 q0'), fun t6 g6 => ⟨_, rfl, by show 6 ≤ sizeLine; decide, fun l6 g7 => ?_⟩⟩
              have u6 := u5.trans (same_new (o := .lst [y0, y1]) g6)
              have hp6 := hp3.same u6
              have hp7 := hp6.same (same_new (o := .lst [V.ref t1, V.ref t2, V.ref t4, V.ref t5, V.ref t6, vo]) g7)
              refine ⟨_, rfl, p, c, 6, rfl, hp7, by decide, by decide, fun n2 H8 n20 n21 hp8 s8 => ?_⟩
              have hl8 := (hid_at.mp (s8 l6 _ (hid_at_new hp6 g7))).2
              obtain ⟨v4, hv4, m4⟩ := at_pick (xs := [V.ref t1, V.ref t2, V.ref t4, V.ref t5, V.ref t6, vo]) n20 n21
              have f7 : Same (hid H3 p c) (hid H8 p c) := ((hid_mono u6).trans (hid_new g7)).trans s8
              refine ⟨l6, _, n2, v4, rfl, rfl, SqL.of hl8, hv4, v4, rfl, hp8, f7, ?_⟩
              have c0 := ev0.up f7
              have c1 := ev1.up f7
              have co := odd.ev.up f7
              simp only [List.mem_cons, List.not_mem_nil, or_false] at m4
              have k8 : ∀ {q : Addr} {o : List V}, SqT K H5 q o → SqT K H8 q o := fun {q o} z => seqT_up hid_le (seqT_up (((hid_mono (same_new g6)).trans (hid_new g7)).trans s8) (seqT_hid ((hp3.same u4).same w5) z))
              rcases m4 with rfl | rfl | rfl | rfl | rfl | rfl
              · exact iv_tup hp8 (k8 (seqT_up ((((same_new g2).trans (same_new g3)).trans w4).trans w5) (SqT.of upd_same))) (by intro x hx; simp only [List.mem_cons, List.not_mem_nil, or_false] at hx; rcases hx with rfl | rfl <;> assumption) (by simp)
              · exact iv_tup hp8 (k8 (seqT_up (((same_new g3).trans w4).trans w5) (SqT.of upd_same))) (by intro x hx; simp only [List.mem_cons, List.not_mem_nil, or_false] at hx; rcases hx with rfl | rfl <;> assumption) (by simp)
              · exact iv_tup hp8 (k8 (seqT_up w5 z4)) (by intro x hx; simp only [List.mem_cons, List.mem_append, List.not_mem_nil, or_false] at hx; rcases hx with (rfl | rfl) | rfl <;> first | assumption | exact ev_int (by decide)) (by simp)
              · exact iv_tup hp8 (k8 z5) (by intro x hx; have hx := cut_mem hx; simp only [List.mem_cons, List.not_mem_nil, or_false] at hx; rcases hx with rfl | rfl <;> assumption) (Nat.le_trans (cutV_length _ _ _) (by simp))
              · exact iv_lst (xs := [y0, y1]) (s8 t6 _ (hid_new g7 t6 _ (hid_at_new ((hp3.same u4).same w5) g6))) (by intro x hx; simp only [List.mem_cons, List.not_mem_nil, or_false] at hx; rcases hx with rfl | rfl <;> assumption) (by simp)
              · exact (odd.up f7).iv
          | _ => exact no_of rfl stay
        · rintro σ H4 ⟨v4, rfl, hp4, s4, iv4⟩
          have hS4 := seqT_up hid_le (seqT_up (sB.trans s4) hS)
          have hI4 : ∀ u ∈ xs, IV K p c H4 u := fun u hu => (hI3 u hu).up s4
          have len1 : (cutV xs none (some (j : Int))).length ≤ j := by
            unfold cutV
            rw [HT.sIx_nat, List.length_take]
            show min (min j xs.length - 0) _ ≤ j
            omega
          have len2 : (cutV xs (some ((j : Int) + 1)) none).length ≤ xs.length - (j + 1) := by
            unfold cutV
            rw [show ((j : Int) + 1) = ((j + 1 : Nat) : Int) by omega, HT.sIx_nat, List.length_take, List.length_drop]
            omega
          have big : ∀ {n : Nat}, n ≤ 1000 → n ≤ sizeLine := fun h => by rw [sizeLine_eq]; omega
          -- some = [thing[:at] + (size,) + thing[at + 1:]] * 5
          refine ⟨_, rfl, _, rfl, _, rfl, a, xs, rfl, hS4, fun p1 H5 w5 z5 => ?_⟩
          refine ⟨_, rfl, by show 1 ≤ sizeLine; decide, fun t1 g1 => ?_⟩
          have a5 := w5.trans (same_new (o := .tup [v4]) g1)
          refine ⟨p1, t1, _, _, rfl, rfl, seqT_up (same_new g1) z5, SqT.of upd_same, big (by show _ + 1 ≤ 1000; omega), fun p2 H6 w6 z6 => ?_⟩
          have a6 := a5.trans w6
          refine ⟨_, rfl, _, rfl, _, _, rfl, rfl, _, rfl, a, xs, rfl, seqT_up a6 hS4, fun p3 H7 w7 z7 => ?_⟩
          have a7 := a6.trans w7
          have len3 : ((cutV xs none (some (j : Int)) ++ [v4]) ++ cutV xs (some ((j : Int) + 1)) none).length ≤ 41 := by
            rw [List.length_append, List.length_append, List.length_singleton]
            omega
          refine ⟨p2, p3, _, _, rfl, rfl, seqT_up w7 z6, z7, big (by rw [← List.length_append]; omega), fun p4 H8 w8 z8 => ?_⟩
          have a8 := a7.trans w8
          refine ⟨by show 1 ≤ sizeLine; decide, fun l1 g2 => ?_⟩
          have a9 := a8.trans (same_new (o := .lst [V.ref p4]) g2)
          refine ⟨l1, 5, [V.ref p4], rfl, rfl, upd_same, by decide, by decide, by show 5 ≤ sizeLine; decide, fun l2 g3 => ?_⟩
          have a10 := a9.trans (same_new (o := .lst (List.replicate (5 : Int).toNat [V.ref p4]).flatten) g3)
          have hl2 : (upd (upd H8 l1 (.lst [V.ref p4])) l2 (.lst (List.replicate (5 : Int).toNat [V.ref p4]).flatten)) l2 = some (.lst [V.ref p4, V.ref p4, V.ref p4, V.ref p4, V.ref p4]) := upd_same
          have z10 : SqT K (upd (upd H8 l1 (.lst [V.ref p4])) l2 (.lst (List.replicate (5 : Int).toNat [V.ref p4]).flatten)) p4 ((cutV xs none (some (j : Int)) ++ [v4]) ++ cutV xs (some ((j : Int) + 1)) none) := seqT_up ((same_new g2).trans (same_new g3)) z8
          revert a10 hl2 z10
          generalize upd (upd H8 l1 (.lst [V.ref p4])) l2 (.lst (List.replicate (5 : Int).toNat [V.ref p4]).flatten) = H10
          intro a10 hl2 z10
          -- some = some + [..]
          refine ⟨_, rfl, _, rfl, _, rfl, a, xs, rfl, seqT_up a10 hS4, fun p5 H11 w11 z11 => ?_⟩
          have a11 := a10.trans w11
          refine ⟨_, rfl, a, xs, rfl, .inr (seqT_up a11 hS4), fun l5 g5 => ?_⟩
          have a12 := a11.trans (same_new (o := .lst xs) g5)
          have nx : xs ≠ [] := fun e => h0 (by rw [e]; rfl)
          refine ⟨_, rfl, a, 41, xs, rfl, rfl, seqT_up a12 hS4, nx, by decide, by decide, by omega, fun r1 g6 => ?_⟩
          have a13 := a12.trans (same_new (o := .tup (List.replicate (41 : Int).toNat xs).flatten) g6)
          refine ⟨_, rfl, r1, _, rfl, SqT.of upd_same, fun p6 H14 w14 z14 => ?_⟩
          have a14 := a13.trans w14
          refine ⟨_, rfl, a, 41, xs, rfl, rfl, seqT_up a14 hS4, nx, by decide, by decide, by omega, fun r2 g7 => ?_⟩
          have a15 := a14.trans (same_new (o := .tup (List.replicate (41 : Int).toNat xs).flatten) g7)
          refine ⟨_, rfl, r2, _, rfl, SqT.of upd_same, fun p7 H16 w16 z16 => ?_⟩
          have a16 := a15.trans w16
          refine ⟨_, rfl, by show 6 ≤ sizeLine; decide, fun l7 g9 => ?_⟩
          have a17 := a16.trans (same_new (o := .lst [V.ref p5, V.ref l5, V.ref p6, V.ref p7, V.non, vo]) g9)
          have b10 : Same H10 H16 := ((((w11.trans (same_new g5)).trans (same_new g6)).trans w14).trans (same_new g7)).trans w16
          refine ⟨l2, l7, _, _, rfl, rfl, (b10.trans (same_new g9)) _ _ hl2, upd_same, by show 11 ≤ sizeLine; decide, fun l8 g10 => ?_⟩
          have hp17 := hp4.same a17
          have hp18 := hp17.same (same_new (o := .lst ([V.ref p4, V.ref p4, V.ref p4, V.ref p4, V.ref p4] ++ [V.ref p5, V.ref l5, V.ref p6, V.ref p7, V.non, vo])) g10)
          refine ⟨_, rfl, _, rfl, p, c, 11, rfl, hp18, by decide, by decide, fun n3 H19 n30 n31 hp19 s19 => ?_⟩
          have hl19 := (hid_at.mp (s19 l8 _ (hid_at_new hp17 g10))).2
          obtain ⟨vr, hvr, mr⟩ := at_pick (xs := [V.ref p4, V.ref p4, V.ref p4, V.ref p4, V.ref p4] ++ [V.ref p5, V.ref l5, V.ref p6, V.ref p7, V.non, vo]) n30 n31
          have f16 : Same (hid H16 p c) (hid H19 p c) := ((hid_new g9).trans (hid_new g10)).trans s19
          have fin : Same (hid H4 p c) (hid H19 p c) := (hid_mono a16).trans f16
          have hI9 : ∀ u ∈ xs, IV K p c H19 u := fun u hu => (hI4 u hu).up fin
          have up16 : ∀ {q : Addr} {o : List V}, SqT K H16 q o → SqT K H19 q o := fun {q o} z => seqT_up hid_le (seqT_up f16 (seqT_hid (hp4.same a16) z))
          refine ⟨l8, _, n3, vr, rfl, rfl, SqL.of hl19, hvr, k vr H19 hp19 ((sB.trans s4).trans fin) ?_⟩
          have first : TV K p c H19 (.ref p4) := by
            refine tv_tup hp19 (up16 (seqT_up b10 z10)) (fun u hu => ?_) len3
            rcases List.mem_append.mp hu with hu | hu
            · rcases List.mem_append.mp hu with hu | hu
              · exact hI9 u (cut_mem hu)
              · obtain rfl := List.mem_singleton.mp hu
                exact iv4.up fin
            · exact hI9 u (cut_mem hu)
          have flat : ∀ u ∈ (List.replicate (41 : Int).toNat xs).flatten, u ∈ xs := fun u hu => by
            obtain ⟨l, h1, h2⟩ := List.mem_flatten.mp hu
            rw [List.eq_of_mem_replicate h1] at h2
            exact h2
          have cutlen : ∀ (ys : List V) (n : Nat), (cutV ys none (some (n : Int))).length ≤ n := fun ys n => by
            unfold cutV
            rw [HT.sIx_nat, List.length_take]
            show min (min n ys.length - 0) _ ≤ n
            omega
          simp only [List.cons_append, List.nil_append, List.mem_cons, List.not_mem_nil, or_false] at mr
          rcases mr with rfl | rfl | rfl | rfl | rfl | rfl | rfl | rfl | rfl | rfl | rfl
          · exact first
          · exact first
          · exact first
          · exact first
          · exact first
          · exact tv_tup hp19 (up16 (seqT_up (((((same_new g5).trans (same_new g6)).trans w14).trans (same_new g7)).trans w16) z11)) (fun u hu => hI9 u (cut_mem hu)) (Nat.le_trans (cutV_length _ _ _) hl)
          · exact tv_lst (xs := xs) (f16 l5 _ (hid_mono (((same_new g6).trans w14).trans ((same_new g7).trans w16)) l5 _ (hid_at_new (hp4.same a11) g5))) hI9 hl
          · exact tv_tup hp19 (up16 (seqT_up ((same_new g7).trans w16) z14)) (fun u hu => hI9 u (flat u (cut_mem hu))) (Nat.le_trans (cutlen _ 40) (by decide))
          · exact tv_tup hp19 (up16 z16) (fun u hu => hI9 u (flat u (cut_mem hu))) (cutlen _ 41)
          · exact .inr ⟨.none, .non, rfl, nice_none.mono (by decide) (by decide)⟩
          · exact (odd.up (s4.trans fin)).tv
end
end My

set_option maxRecDepth 100000
set_option maxHeartbeats 4000000
namespace My
open PySem PySem.Spec PyProof.Rows L2 GL
abbrev sLaw : Stmt := topS 22
/-- all but lists is kept -/
def Keeps (H H' : Hp) : Prop := ∀ b o, H b = some o → (∀ l, o ≠ .lst l) → H' b = some o
theorem Keeps.trans {H H1 H2 : Hp} (a : Keeps H H1) (b : Keeps H1 H2) : Keeps H H2 := fun q o z n => b q o (a q o z n) n
theorem keeps_same {H H' : Hp} (e : Same H H') : Keeps H H' := fun b o z _ => e b o z
theorem keeps_hid {H H' : Hp} {p c : Addr} (h : PoolAt H p c) (e : Same (hid H p c) (hid H' p c)) : Keeps H H' := fun b o z n => by
  obtain ⟨z1, z2, z3, z4, z5, _⟩ := h.ex
  refine (hid_at.mp (e b o (hid_at.mpr ⟨⟨fun q => ?_, fun q => ?_⟩, z⟩))).2
  · subst q; rw [z] at z4; exact n _ (Option.some.inj z4)
  · subst q; rw [z] at z5; exact n _ (Option.some.inj z5)
theorem keeps_upd {H : Hp} {D : Addr} {l ys : List V} (h : H D = some (.lst l)) : Keeps H (upd H D (.lst ys)) := fun b o z n => by
  rw [upd_ne (fun q => by subst q; rw [z] at h; exact n _ (Option.some.inj h))]
  exact z
theorem seqT_keeps {K : PySem.W.Frag} {H H' : Hp} {a : Addr} {xs : List V} (e : Keeps H H') (h : SqT K H a xs) : SqT K H' a xs := by
  rcases h with (q | ⟨o, q⟩) | q
  · exact .inl (.inl (e _ _ q fun l z => by cases z))
  · exact .inl (.inr ⟨o, e _ _ q fun l z => by cases z⟩)
  · exact .inr q
theorem szAll_keeps {K : PySem.W.Frag} {H H' : Hp} (e : Keeps H H') : ∀ {vs : List V} {ps : List (Int × Int)}, DpAll K H vs (ps.map pairD) → DpAll K H' vs (ps.map pairD)
  | _, [], h => by cases h; exact .nil
  | _, q :: ps, h => by
    cases h with
    | cons h1 h2 =>
      refine .cons ?_ (szAll_keeps e h2)
      cases h1 with
      | tup q1 r =>
        refine .tup (seqT_keeps e q1) ?_
        cases r with
        | cons r1 r2 =>
          cases r2 with
          | cons r3 r4 =>
            cases r4
            cases r1
            cases r3
            exact .cons (.int _) (.cons (.int _) .nil)
theorem sz_keeps {K : PySem.W.Frag} {H H' : Hp} {a : Addr} {ps : List (Int × Int)} (e : Keeps H H') (h : Dp K H (.ref a) (szD ps)) : Dp K H' (.ref a) (szD ps) := by
  cases h with
  | tup q r => exact .tup (seqT_keeps e q) (szAll_keeps e r)
def Bd (ps : List (Int × Int)) : Prop := ∀ q ∈ ps, (1 ≤ q.1 ∧ q.1 ≤ 1000) ∧ 1 ≤ q.2 ∧ q.2 ≤ 1000
theorem sizeOk_pair {q : Int × Int} (h : (1 ≤ q.1 ∧ q.1 ≤ 1000) ∧ 1 ≤ q.2 ∧ q.2 ≤ 1000) : sizeOk (pairD q) = true := by
  show (decide (2 = 2) && ((decide (1 ≤ q.1) && decide (q.1 ≤ 1000)) && ((decide (1 ≤ q.2) && decide (q.2 ≤ 1000)) && true))) = true
  rw [decide_eq_true h.1.1, decide_eq_true h.1.2, decide_eq_true h.2.1, decide_eq_true h.2.2]
  rfl
theorem firstBad_none : ∀ {ps : List (Int × Int)} (i : Nat), Bd ps → firstBad (ps.map pairD) i = none
  | [], _, _ => rfl
  | q :: ps, i, h => by
    show (if sizeOk (pairD q) = true then firstBad (ps.map pairD) (i + 1) else some (i : Int)) = none
    rw [if_pos (sizeOk_pair (h q List.mem_cons_self))]
    exact firstBad_none (i + 1) fun r hr => h r (List.mem_cons_of_mem _ hr)
theorem due_sz {ps : List (Int × Int)} (h0 : 0 < ps.length) (h1 : ps.length ≤ 40) (hb : Bd ps) : dueD (szD ps) = none := by
  show (if 0 < (ps.map pairD).length ∧ (ps.map pairD).length < 41 then firstBad (ps.map pairD) 0 else some (-1)) = none
  rw [if_pos (by rw [List.length_map]; omega)]
  exact firstBad_none 0 hb
theorem nice_pair {q : Int × Int} (h : (1 ≤ q.1 ∧ q.1 ≤ 1000) ∧ 1 ≤ q.2 ∧ q.2 ≤ 1000) : Nice 37 213 (pairD q) := by
  have p : (1000 : Nat) < 10 ^ 20 := by decide
  refine (nice_tup (D := 0) (W := 70) (n := 2) (ds := [.int q.1, .int q.2]) (fun d hd => ?_) (by simp)).mono (by decide) (by decide)
  simp only [List.mem_cons, List.not_mem_nil, or_false] at hd
  rcases hd with rfl | rfl
  · exact nice_int (by omega)
  · exact nice_int (by omega)
theorem nice_sz {ps : List (Int × Int)} (h1 : ps.length ≤ 40) (hb : Bd ps) : Nice 38 9000 (szD ps) := by
  refine (nice_tup (D := 37) (W := 213) (n := 41) (ds := ps.map pairD) (fun d hd => ?_) (by rw [List.length_map]; omega)).mono (by decide) (by decide)
  obtain ⟨q, hq, rfl⟩ := List.mem_map.mp hd
  exact nice_pair (hb q hq)
theorem tv_sz {K : PySem.W.Frag} {p c a : Addr} {H : Hp} {ps : List (Int × Int)} (h : Dp K (hid H p c) (.ref a) (szD ps)) (h1 : ps.length ≤ 40) (hb : Bd ps) : TV K p c H (.ref a) := by
  cases h with
  | tup q r =>
    rename_i xs
    have lx := len_dp r
    rw [List.length_map] at lx
    refine .inl ⟨a, xs, rfl, q, by omega, fun u hu => ?_⟩
    obtain ⟨i, hi⟩ := List.getElem?_of_mem hu
    obtain ⟨d, hd, qd⟩ := dp_mem r hi
    rw [List.getElem?_map] at hd
    cases e : ps[i]? with
    | none => rw [e] at hd; cases hd
    | some z =>
      rw [e] at hd
      have ed := Option.some.inj hd
      subst ed
      have bz := hb z (List.mem_of_getElem? e)
      have p1 : (1000 : Nat) < 10 ^ 20 := by decide
      refine ⟨pairD z, qd, nice_pair bz, fun ds e2 _ x hx => ?_⟩
      cases e2
      simp only [List.mem_cons, List.not_mem_nil, or_false] at hx
      rcases hx with rfl | rfl
      · exact (nice_int (by omega)).mono (by decide) (Nat.le_refl _)
      · exact (nice_int (by omega)).mono (by decide) (Nat.le_refl _)
theorem lay_sz : ∀ (ps : List (Int × Int)), PyData.canLayAll0 (ps.map pairD) = true ∧ PyData.depthAll (ps.map pairD) ≤ 1
  | [] => ⟨rfl, Nat.zero_le _⟩
  | q :: ps => by
    obtain ⟨h1, h2⟩ := lay_sz ps
    refine ⟨?_, ?_⟩
    · show ((pairD q).canLay0 && PyData.canLayAll0 (ps.map pairD)) = true
      rw [h1] <;> rfl
    · show max (pairD q).depth (PyData.depthAll (ps.map pairD)) ≤ 1
      exact Nat.max_le.mpr ⟨Nat.le_refl _, h2⟩
theorem shaped_sz (ps : List (Int × Int)) : SeqAt.shaped (szD ps) = true := by
  obtain ⟨h1, h2⟩ := lay_sz ps
  unfold SeqAt.shaped
  rw [Bool.and_eq_true]
  refine ⟨?_, decide_eq_true ?_⟩
  · rw [szD, PyData.canLay0]
    exact h1
  · rw [szD, PyData.depth]
    omega
/-- what is kept: sizes and the Boxes of them -/
def KE (K : PySem.W.Frag) (C : Addr) (H : Hp) (v : V) : Prop := ∃ (t a x dx : Addr) (ps : List (Int × Int)) (n : Int), v = .ref t ∧ H t = some (.tup [.ref a, .ref x]) ∧ Dp K H (.ref a) (szD ps) ∧ H x = some (.ins C dx (bfl (.ref a) n))
theorem KE.keeps {K : PySem.W.Frag} {C : Addr} {H H' : Hp} {v : V} (h : KE K C H v) (e : Keeps H H') : KE K C H' v := by
  obtain ⟨t, a, x, dx, ps, n, rfl, h1, h2, h3⟩ := h
  exact ⟨t, a, x, dx, ps, n, rfl, e _ _ h1 (fun l z => by cases z), sz_keeps e h2, e _ _ h3 (fun l z => by cases z)⟩
def spLaw (K : PySem.W.Frag) : Sp := fun vs H Q _ => ∃ (a : Addr) (ns : List Int), vs = [.ref a] ∧ SqL K H a (ns.map V.int) ∧ ns.length ≤ 63 ∧ ∀ H', Q (.bl true) H'
end My

set_option maxRecDepth 100000
set_option maxHeartbeats 4000000
namespace My
open PySem PySem.Spec PyProof.Rows L2 GL
abbrev nL : List Str := ["script", "pool", "kept", "turn", "sizes", "made", "thing", "change", "due", "told", "others", "other"]
theorem scLaw : FnScope nL ["script"] (defScope sLaw) := ⟨rfl, rfl, rfl, by decide +kernel, rfl, by decide +kernel, by decide +kernel⟩
section
variable {P : Program} {w : World} {K : PySem.W.Frag} {mg : Str → Option Value} {base : Heap} {C CB CS fB : Addr}
theorem pick2 {b : Bool} {σ : L2.St} {H : Hp} {Qc : VK} (h : ∀ m : Int, 0 < m → m ≤ 40 → Qc (.int m) H) : if b = true then tC (.int 40) σ H Qc else tC (.int 5) σ H Qc := by
  cases b
  · exact no_of rfl (h 5 (by decide) (by decide))
  · exact yes_of rfl (h 40 (by decide) (by decide))
theorem first_small : ∀ {ds : List PyData} {i : Nat} {z : Int}, firstBad ds i = some z → (i : Int) ≤ z ∧ z < (i : Int) + (ds.length : Int)
  | [], _, _, h => by cases h
  | d :: ds, i, z, h => by
    have h : (if sizeOk d = true then firstBad ds (i + 1) else some (i : Int)) = some z := h
    cases ok : sizeOk d with
    | true =>
      rw [ok, if_pos rfl] at h
      have y := first_small h
      rw [List.length_cons]
      omega
    | false =>
      rw [ok, if_neg Bool.false_ne_true] at h
      have y := Option.some.inj h
      rw [List.length_cons]
      omega
theorem due_small {d : PyData} {z : Int} (h : dueD d = some z) : z.natAbs < 10 ^ 20 := by
  have p : 100 < 10 ^ 20 := by decide
  cases d with
  | tuple ds =>
    have h : (if 0 < ds.length ∧ ds.length < 41 then firstBad ds 0 else some (-1)) = some z := h
    by_cases c : 0 < ds.length ∧ ds.length < 41
    · rw [if_pos c] at h
      have y := first_small h
      omega
    · rw [if_neg c] at h
      have y := Option.some.inj h
      omega
  | _ =>
    have y := Option.some.inj (show some (-1) = some z from h)
    omega
theorem not_first {K : PySem.W.Frag} {C : Addr} : PySem.W.notFirst K C (.ref C) = true := by
  unfold PySem.W.notFirst
  rw [beq_self_eq_true, Bool.true_or]
/-- a def as the law calls it -/
structure Dn (K : PySem.W.Frag) (mg : Str → Option Value) (x : Str) (f : Addr) (fd : FuncData) (ps : List Str) : Prop where
  m : mg x = some (.ref f)
  k : PySem.W.keepIn K (.ref f) = true
  b : Binds K fd ps []
theorem ok_law {f fP fD fS fT fI fB2 fU fE : Addr} {fd dP dD dS dT dI dB dU dE : FuncData} (F : Fun K "law" "law" sLaw f fd) (N : Nm mg) (T : BTxt K mg C CB fB) (J : ITxt K mg C CB CS)
    (GP : FnOk P w K mg base CX0 1 fP dP ["script"] (spPool K)) (aP : Dn K mg "_law_pool" fP dP ["script"])
    (GD : FnOk P w K mg base CX0 1 fD dD ["pool", "many"] spDraw) (aD : Dn K mg "_law_draw" fD dD ["pool", "many"])
    (GS : FnOk P w K mg base CX0 2 fS dS ["pool", "most"] (spSizes K)) (aS : Dn K mg "_law_sizes" fS dS ["pool", "most"])
    (GT : FnOk P w K mg base CX0 6 fT dT ["thing"] (spTried K C)) (aT : Dn K mg "_law_tried" fT dT ["thing"])
    (GI : FnG P w K mg base 1 fI dI ["told", "due"] (spIs K)) (aI : Dn K mg "_law_is" fI dI ["told", "due"])
    (GB : FnOk P w K mg base CX0 2 fB2 dB ["pool", "thing"] (spBent K)) (aB : Dn K mg "_law_bent" fB2 dB ["pool", "thing"])
    (GU : FnOk P w K mg base CX0 2 fU dU ["thing"] (spDue K)) (aU : Dn K mg "_law_due" fU dU ["thing"])
    (GE : FnOk P w K mg base CX0 1 fE dE ["self", "other"] (spBoxEq K C)) (bE : Binds K dE ["self", "other"] []) (sE : PySem.W.findIn K (.ref C) "__eq__" = some (some (.ref fE))) (iE : PySem.W.isFn K (.ref fE) = true) :
    FnG P w K mg base 7 f fd ["script"] (spLaw K) := by
  refine F.okG scLaw (fun vs H Q h => ?_) (fun cdv A outer s H vs Q hg hr h => ?_)
  · obtain ⟨a, ns, rfl, _⟩ := h
    rfl
  · obtain ⟨a, ns, rfl, hS, hl, k⟩ := h
    have hr1 : Room 1 _ := hr.mono (by decide)
    have hr2 : Room 2 _ := hr.mono (by decide)
    refine ⟨_, pss_cons (ps_set (i := 1) scLaw.nd rfl (.inl rfl) (pe_call GP hr1 (by rfl) aP.m aP.k aP.b .nil pass0 (pa_cons (pv 0) pa_nil)))
      (pss_cons (ps_set (i := 2) scLaw.nd rfl (.inl rfl) (pe_lst pa_nil))
      (pss_cons (ps_for PassesOwn.never rfl (pi_range1 rfl N.range (pa_cons pe_int pa_nil)) (pg_name (i := 3) scLaw.nd rfl (.inl rfl))
        (pss_cons (ps_set (i := 4) scLaw.nd rfl (.inl rfl) (pe_call GS hr2 (by rfl) aS.m aS.k aS.b .nil pass0 (pa_cons (pv 1) (pa_cons (pe_ifExp (pt_cmpR op_eq (pe_call GD hr1 (by rfl) aD.m aD.k aD.b .nil pass0 (pa_cons (pv 1) (pa_cons pe_int pa_nil))) pe_int (nomark _)) pe_int pe_int) pa_nil))))
        (pss_cons (ps_set (i := 5) scLaw.nd rfl (.inl rfl) (pe_call GT hr (by rfl) aT.m aT.k aT.b .nil pass0 (pa_cons (pv 4) pa_nil)))
        (pss_cons (ps_if (PW.pt (pw_or (pt_not (pt_val (pe_callB call_isi (by rfl) N.isinstance (by decide +kernel) (pa_cons (pv 5) (pa_cons (pe_glob (v := .ref C) rfl T.mgC rfl) pa_nil)))))
            (pw_or1 (pt_not (pt_val (pe_callG GI hg hr1 (by rfl) aI.m aI.k aI.b (pa_cons (pe_tup (pa_cons (pe_fld (pv 5) rfl) (pa_cons (pe_fld (pv 5) rfl) pa_nil)))
              (pa_cons (pe_tup (pa_cons (pv 4) (pa_cons (pe_callB call_len_seq (by rfl) N.len PySem.boot_len (pa_cons (pv 4) pa_nil)) pa_nil))) pa_nil))))))))
          (pss_one (ps_ret pe_bl)) pss_nil)
        (pss_cons (ps_expr (pe_bm PySem.F.plainAttrs_list PySem.F.slot_list_append PySem.F.type_list_append mt_append (pv 2) (pa_cons (pe_tup (pa_cons (pv 4) (pa_cons (pv 5) pa_nil))) pa_nil)))
        (pss_cons (ps_set (i := 6) scLaw.nd rfl (.inl rfl) (pv 4))
        (pss_cons (ps_for PassesOwn.never rfl (pi_range1 rfl N.range (pa_cons (pe_op op_add pe_int (pe_call GD hr1 (by rfl) aD.m aD.k aD.b .nil pass0 (pa_cons (pv 1) (pa_cons pe_int pa_nil)))) pa_nil)) (pg_name (i := 7) scLaw.nd rfl (.inl rfl))
          (pss_one (ps_set (i := 6) scLaw.nd rfl (.inl rfl) (pe_call GB hr2 (by rfl) aB.m aB.k aB.b .nil pass0 (pa_cons (pv 1) (pa_cons (pv 6) pa_nil))))))
        (pss_cons (ps_par (i := 8) (j := 9) (by rfl) scLaw.nd rfl rfl (by decide) rfl rfl (pa_cons (pe_call GU hr2 (by rfl) aU.m aU.k aU.b .nil pass0 (pa_cons (pv 6) pa_nil)) (pa_cons (pe_call GT hr (by rfl) aT.m aT.k aT.b .nil pass0 (pa_cons (pv 6) pa_nil)) pa_nil)) (by rfl))
        (pss_cons (ps_if (PW.pt (pw_and (pt_cmpR op_isN (pv 8) pe_non (nomark _)) (pw_and1 (PW.pt (pw_or (pt_not (pt_val (pe_callB call_isi (by rfl) N.isinstance (by decide +kernel) (pa_cons (pv 9) (pa_cons (pe_glob (v := .ref C) rfl T.mgC rfl) pa_nil)))))
            (pw_or1 (pt_not (pt_val (pe_callG GI hg hr1 (by rfl) aI.m aI.k aI.b (pa_cons (pe_fld (pv 9) rfl) (pa_cons (pv 6) pa_nil)))))))))))
          (pss_one (ps_ret pe_bl)) pss_nil)
        (C8.pss_cut (ps_if (PW.pt (pw_and (pt_cmpR op_notN (pv 8) pe_non (nomark _)) (pw_and1 (pt_not (pt_val (pe_callG GI hg hr1 (by rfl) aI.m aI.k aI.b (pa_cons (pv 9) (pa_cons (pe_tup (pa_cons pe_str (pa_cons (pv 8) pa_nil))) pa_nil))))))))
          (pss_one (ps_ret pe_bl)) pss_nil)
        (pss_one (ps_if (PW.pt (pw_or (pt_cmpR (op_ownEq GE sE iE bE hr1) (pv 5) (pv 4) (nomark _)) (pw_or (pt_cmpR (op_ownEq GE sE iE bE hr1) (pv 5) (pe_callB call_len_seq (by rfl) N.len PySem.boot_len (pa_cons (pv 4) pa_nil)) (nomark _))
            (pw_or1 (pt_cmpR op_isN (pv 5) pe_non (nomark _))))))
          (pss_one (ps_ret pe_bl)) pss_nil))))))))))))
      (pss_cons (ps_for PassesOwn.never rfl (pi_list (pv 2)) (pg_tup rfl (pgs_cons (pg_name (i := 4) scLaw.nd rfl (.inl rfl)) (pgs_cons (pg_name (i := 5) scLaw.nd rfl (.inl rfl)) pgs_nil)))
        (pss_one (ps_for PassesOwn.never rfl (pi_list (pv 2)) (pg_tup rfl (pgs_cons (pg_name (i := 10) scLaw.nd rfl (.inl rfl)) (pgs_cons (pg_name (i := 11) scLaw.nd rfl (.inl rfl)) pgs_nil)))
          (pss_one (ps_if (pt_cmpR op_ne (pe_cmpR (op_ownEq GE sE iE bE hr1) (pv 5) (pv 11) (nomark _)) (pe_cmpR (op_eqD hr.units) (pv 4) (pv 10) (nomark _)) (nomark _)) (pss_one (ps_ret pe_bl)) pss_nil)))))
      (pss_one (ps_ret pe_bl))))), ?_⟩
    refine ⟨_, rfl, a, ns, rfl, hS, hl, fun p c H1 s1 _ _ hp1 => ?_⟩
    refine ⟨Nat.zero_le _, fun L nL => ?_⟩
    have neL := new_ne hp1 nL
    refine ⟨5, rfl, by decide, by decide, for_range (n := 5) (fun i σ H2 => ∃ (v3 v4 v5 v6 v7 v8 v9 : Option V) (kv : List V), σ = [some (.ref a), some (.ref p), some (.ref L), v3, v4, v5, v6, v7, v8, v9, none, none] ∧ PoolAt H2 p c ∧ H2 L = some (.lst kv) ∧ kv.length = i ∧ ∀ u ∈ kv, KE K C H2 u)
      ⟨none, none, none, none, none, none, none, [], rfl, hp1.same (same_new nL), upd_same, rfl, fun u hu => absurd hu List.not_mem_nil⟩ ?_ ?_⟩
    · rintro i σ H2 hi ⟨v3, v4, v5, v6, v7, v8, v9, kv, rfl, hp2, hL2, lk, hK⟩
      -- sizes
      refine ⟨_, rfl, _, rfl, p, c, 6, rfl, hp2, by decide, by decide, fun d6 H3 _ _ hp3 s3 => ⟨rfl, _, rfl, pick2 fun m m0 m40 => ?_⟩⟩
      refine ⟨p, c, m, rfl, hp3, m0, by omega, fun a1 ps H4 hp4 s4 hd4 l0 lm hb => ?_⟩
      have l40 : ps.length ≤ 40 := by omega
      have hdue := due_sz l0 l40 hb
      have f4 := s3.trans s4
      have hL4 : H4 L = some (.lst kv) := (hid_at.mp (f4 L _ (hid_at.mpr ⟨neL, hL2⟩))).2
      have kp4 := (keeps_hid hp2 s3).trans (keeps_hid hp3 s4)
      -- made
      refine ⟨_, rfl, .ref a1, szD ps, rfl, dp_up hid_le _ _ hd4, fun _ ds x dx H5 eds s5 nx hx => ?_, fun z hz => by rw [hdue] at hz; cases hz⟩
      have hd5 : Dp K H5 (.ref a1) (szD ps) := dp_up s5 _ _ (dp_up hid_le _ _ hd4)
      have lds : (ds.length : Int) = (ps.length : Int) := by
        have e : ps.map pairD = ds := by injection eds
        rw [← e, List.length_map]
      rw [lds] at hx
      obtain ⟨xs1, hq5, lx⟩ : ∃ xs1, SqT K H5 a1 xs1 ∧ xs1.length = ps.length := by
        cases hd5 with
        | tup q r => exact ⟨_, q, by rw [len_dp r, List.length_map]⟩
      have n1000 : ps.length < 10 ^ 20 := Nat.lt_of_le_of_lt l40 (by decide)
      have nice1 : Nice 60 300000 (.tuple [szD ps, .int (ps.length : Nat)]) := by
        refine (nice_tup (D := 38) (W := 9000) (n := 2) (fun d hd => ?_) (by simp)).mono (by decide) (by decide)
        simp only [List.mem_cons, List.not_mem_nil, or_false] at hd
        rcases hd with rfl | rfl
        · exact nice_sz l40 hb
        · exact (nice_int (by simpa using n1000)).mono (by decide) (by decide)
      refine ⟨_, rfl, _, _, _, _, _, rfl, .own C, J.ty T hx, kit_self, _, rfl, no_of rfl ?_⟩
      refine ⟨_, rfl, x, C, dx, _, _, rfl, hx, T.cl, T.nS, bfl_sizes _ _, _, rfl, x, C, dx, _, _, rfl, hx, T.cl, T.nM, bfl_many _ _, by show 2 ≤ sizeLine; decide, fun t1 g1 => ?_⟩
      have w1 := same_new (o := .tup [V.ref a1, V.int (ps.length : Nat)]) g1
      refine ⟨_, rfl, _, rfl, a1, xs1, rfl, .inr (seqT_up w1 hq5), by show 2 ≤ sizeLine; decide, fun t2 g2 => ?_⟩
      have w2 := w1.trans (same_new (o := .tup [V.ref a1, V.int (xs1.length : Nat)]) g2)
      have hd7 := dp_up w2 _ _ hd5
      refine ⟨t1, t2, .tuple [szD ps, .int (ps.length : Nat)], rfl, .tup (SqT.of (same_new g2 _ _ upd_same)) (.cons hd7 (.cons (.int _) .nil)), .tup (SqT.of upd_same) (.cons hd7 (.cons (by rw [lx]; exact .int _) .nil)), nice1, _, rfl, no_of rfl ?_⟩
      -- kept
      have f7 := s5.trans w2
      have hL7 := f7 _ _ hL4
      refine ⟨_, rfl, .inl ⟨rfl, _, SqL.of hL7⟩, _, rfl, _, rfl, by show 2 ≤ sizeLine; decide, fun t3 g3 => ?_⟩
      have hL8 := same_new (o := .tup [V.ref a1, V.ref x]) g3 _ _ hL7
      refine ⟨L, kv, _, rfl, rfl, hL8, small1000 (by omega), ?_⟩
      have kp7 : Keeps H4 (upd (upd (upd H5 t1 (.tup [V.ref a1, V.int (ps.length : Nat)])) t2 (.tup [V.ref a1, V.int (xs1.length : Nat)])) t3 (.tup [V.ref a1, V.ref x])) := keeps_same (f7.trans (same_new g3))
      have kp8 := kp7.trans (keeps_upd (ys := kv ++ [V.ref t3]) hL8)
      have hp8 := ((hp4.same f7).same (same_new (o := .tup [V.ref a1, V.ref x]) g3)).off (D := L) (o := .lst (kv ++ [V.ref t3])) neL
      have hx8 : (upd (upd (upd (upd H5 t1 (.tup [V.ref a1, V.int (ps.length : Nat)])) t2 (.tup [V.ref a1, V.int (xs1.length : Nat)])) t3 (.tup [V.ref a1, V.ref x])) L (.lst (kv ++ [V.ref t3]))) x = some (.ins C dx (bfl (.ref a1) (ps.length : Nat))) :=
        keeps_upd hL8 _ _ (same_new g3 _ _ (w2 _ _ hx)) (fun l z => by cases z)
      have ht8 : (upd (upd (upd (upd H5 t1 (.tup [V.ref a1, V.int (ps.length : Nat)])) t2 (.tup [V.ref a1, V.int (xs1.length : Nat)])) t3 (.tup [V.ref a1, V.ref x])) L (.lst (kv ++ [V.ref t3]))) t3 = some (.tup [V.ref a1, V.ref x]) :=
        keeps_upd hL8 _ _ upd_same (fun l z => by cases z)
      have hd8 : Dp K (upd (upd (upd (upd H5 t1 (.tup [V.ref a1, V.int (ps.length : Nat)])) t2 (.tup [V.ref a1, V.int (xs1.length : Nat)])) t3 (.tup [V.ref a1, V.ref x])) L (.lst (kv ++ [V.ref t3]))) (.ref a1) (szD ps) :=
        sz_keeps (keeps_upd hL8) (dp_up (same_new g3) _ _ hd7)
      have hL9 : (upd (upd (upd (upd H5 t1 (.tup [V.ref a1, V.int (ps.length : Nat)])) t2 (.tup [V.ref a1, V.int (xs1.length : Nat)])) t3 (.tup [V.ref a1, V.ref x])) L (.lst (kv ++ [V.ref t3]))) L = some (.lst (kv ++ [V.ref t3])) := upd_same
      have hK8 : ∀ u ∈ kv ++ [V.ref t3], KE K C (upd (upd (upd (upd H5 t1 (.tup [V.ref a1, V.int (ps.length : Nat)])) t2 (.tup [V.ref a1, V.int (xs1.length : Nat)])) t3 (.tup [V.ref a1, V.ref x])) L (.lst (kv ++ [V.ref t3]))) u := fun u hu => by
        rcases List.mem_append.mp hu with hu | hu
        · exact (hK u hu).keeps (kp4.trans kp8)
        · obtain rfl := List.mem_singleton.mp hu
          exact ⟨t3, a1, x, dx, ps, _, rfl, ht8, hd8, hx8⟩
      revert hp8 hx8 hd8 hL9 hK8
      generalize upd (upd (upd (upd H5 t1 (.tup [V.ref a1, V.int (ps.length : Nat)])) t2 (.tup [V.ref a1, V.int (xs1.length : Nat)])) t3 (.tup [V.ref a1, V.ref x])) L (.lst (kv ++ [V.ref t3])) = H8
      intro hp8 hx8 hd8 hL8' hK8
      -- thing
      refine ⟨_, rfl, _, rfl, p, c, 3, rfl, hp8, by decide, by decide, fun d3 H9 d30 d33 hp9 s9 => ⟨_, _, rfl, rfl, 1 + d3, rfl, by omega, by omega, ?_⟩⟩
      have tv9 : TV K p c H9 (.ref a1) := by
        refine TV.up (H := H8) (tv_sz ?_ l40 hb) s9
        cases hd8 with
        | tup q r =>
          exact .tup (seqT_hid hp8 q) (szAll_keeps (fun b o z n => hid_at.mpr ⟨⟨fun e => (by
              subst e
              obtain ⟨z1, z2, z3, z4, z5, _⟩ := hp8.ex
              rw [z] at z4
              exact n _ (Option.some.inj z4)), fun e => (by
              subst e
              obtain ⟨z1, z2, z3, z4, z5, _⟩ := hp8.ex
              rw [z] at z5
              exact n _ (Option.some.inj z5))⟩, z⟩) r)
      refine for_range (n := (1 + d3).toNat) (fun j σ HA => ∃ (vt : V) (v7 : Option V), σ = [some (.ref a), some (.ref p), some (.ref L), some (.int (0 + (i : Nat))), some (.ref a1), some (.ref x), some vt, v7, v8, v9, none, none] ∧ PoolAt HA p c ∧ Same (hid H8 p c) (hid HA p c) ∧ TV K p c HA vt)
        ⟨.ref a1, v7, rfl, hp9, s9, tv9⟩ ?_ ?_
      · rintro j σ HA hj ⟨vt, v7, rfl, hpA, sA, tvA⟩
        refine ⟨_, rfl, _, rfl, p, c, vt, rfl, hpA, tvA, fun vt2 HB hpB sB tvB => ?_⟩
        exact ⟨vt2, _, rfl, hpB, sA.trans sB, tvB⟩
      · rintro σ HA ⟨vt, v7, rfl, hpA, sA, tvA⟩
        obtain ⟨dt, hdt, hnt⟩ := tvA.dp
        have hdt := dp_up hid_le _ _ hdt
        have kpA := keeps_hid hp8 sA
        have hLA : HA L = some (.lst (kv ++ [V.ref t3])) := (hid_at.mp (sA L _ (hid_at.mpr ⟨neL, hL8'⟩))).2
        refine ⟨_, rfl, vt, dt, rfl, hdt, fun HB sB => ⟨_, rfl, vt, dt, rfl, dp_up sB _ _ hdt, fun hN ds x2 dx2 HC eds sC nx2 hx2 => ⟨_, _, rfl, ?_⟩, fun z hz t9 HC sC ht9 => ⟨_, _, rfl, ?_⟩⟩⟩
        · rw [hN]
          refine ⟨_, rfl, rfl, _, rfl, yes_of rfl ?_⟩
          refine ⟨_, rfl, _, _, _, _, _, rfl, .own C, J.ty T hx2, kit_self, _, rfl, no_of rfl ?_⟩
          have hdt2 := dp_up (sB.trans sC) _ _ hdt
          subst eds
          obtain ⟨b2, rfl⟩ : ∃ b2 : Addr, vt = .ref b2 := by
            cases hdt with
            | tup q r => exact ⟨_, rfl⟩
          refine ⟨_, rfl, x2, C, dx2, _, _, rfl, hx2, T.cl, T.nS, bfl_sizes _ _, _, rfl, b2, b2, .tuple ds, rfl, hdt2, hdt2, hnt.mono (by decide) (by decide), _, rfl, no_of rfl ?_⟩
          refine ⟨fun σ HE => ∃ v8 v9 : Option V, σ = [some (V.ref a), some (.ref p), some (.ref L), some (.int (0 + (i : Nat))), some (.ref a1), some (.ref x), some (.ref b2), v7, v8, v9, none, none] ∧ Same HA HE, ?_, ?_⟩
          · exact ⟨_, rfl, rfl, _, rfl, no_of rfl ⟨_, _, rfl, sB.trans sC⟩⟩
          · rintro σ HE ⟨v8, v9, rfl, sE⟩
            have kpE := kpA.trans (keeps_same sE)
            have hxE := kpE _ _ hx8 (fun l z => by cases z)
            have hdE := sz_keeps kpE hd8
            have hKE : ∀ u ∈ kv ++ [V.ref t3], KE K C HE u := fun u hu => (hK8 u hu).keeps kpE
            have kpE_L : HE L = some (.lst (kv ++ [V.ref t3])) := sE _ _ hLA
            have hlE : (kv ++ [V.ref t3]).length = i + 1 := by rw [List.length_append, List.length_singleton, lk]
            obtain ⟨xsE, hqE, lxE⟩ : ∃ xs, SqT K HE a1 xs ∧ xs.length = ps.length := by
              cases hdE with
              | tup q r => exact ⟨_, q, by rw [len_dp r, List.length_map]⟩
            refine ⟨_, rfl, _, rfl, x, dx, _, _, rfl, hxE, ty_dp hdE, J.nT, x, dx, _, _, _, _, rfl, hxE, hdE, shaped_sz ps, .inr ⟨_, ty_dp hdE, J.kT, _, rfl, _, rfl, no_of rfl ?_⟩⟩
            refine ⟨_, rfl, _, rfl, a1, xsE, rfl, .inr hqE, x, dx, _, _, rfl, hxE, .base (.int _), J.nI, x, dx, _, _, _, _, rfl, hxE, hdE, shaped_sz ps, .inr ⟨_, .base (.int _), J.kI, _, rfl, _, rfl, no_of rfl ?_⟩⟩
            refine ⟨_, rfl, rfl, _, rfl, no_of rfl ?_⟩
            exact ⟨_, _, _, _, _, _, _, _, rfl, hpA.same sE, kpE_L, hlE, hKE⟩
        · rw [hz]
          refine ⟨_, rfl, rfl, _, rfl, no_of rfl ?_⟩
          refine ⟨fun σ HE => ∃ v8 v9 : Option V, σ = [some (V.ref a), some (.ref p), some (.ref L), some (.int (0 + (i : Nat))), some (.ref a1), some (.ref x), some (vt), v7, v8, v9, none, none] ∧ Same HA HE, ?_, ?_⟩
          · refine ⟨_, rfl, rfl, _, rfl, yes_of rfl ⟨_, rfl, _, rfl, by show 2 ≤ sizeLine; decide, fun t10 g10 => ?_⟩⟩
            have w10 := same_new (o := .tup [V.str "bad", V.int z]) g10
            have nb : Nice 60 300000 (.tuple [.str "bad", .int z]) := by
              refine (nice_tup (D := 0) (W := 70) (n := 2) (fun d hd => ?_) (by simp)).mono (by decide) (by decide)
              simp only [List.mem_cons, List.not_mem_nil, or_false] at hd
              rcases hd with rfl | rfl
              · constructor <;> decide +kernel
              · exact nice_int (due_small hz)
            refine ⟨t9, t10, .tuple [.str "bad", .int z], rfl, .tup (SqT.of (w10 _ _ ht9)) (.cons (.str _) (.cons (.int _) .nil)), .tup (SqT.of upd_same) (.cons (.str _) (.cons (.int _) .nil)), nb, _, rfl, no_of rfl ?_⟩
            exact ⟨_, _, rfl, (sB.trans sC).trans w10⟩
          · rintro σ HE ⟨v8, v9, rfl, sE⟩
            have kpE := kpA.trans (keeps_same sE)
            have hxE := kpE _ _ hx8 (fun l z => by cases z)
            have hdE := sz_keeps kpE hd8
            have hKE : ∀ u ∈ kv ++ [V.ref t3], KE K C HE u := fun u hu => (hK8 u hu).keeps kpE
            have kpE_L : HE L = some (.lst (kv ++ [V.ref t3])) := sE _ _ hLA
            have hlE : (kv ++ [V.ref t3]).length = i + 1 := by rw [List.length_append, List.length_singleton, lk]
            obtain ⟨xsE, hqE, lxE⟩ : ∃ xs, SqT K HE a1 xs ∧ xs.length = ps.length := by
              cases hdE with
              | tup q r => exact ⟨_, q, by rw [len_dp r, List.length_map]⟩
            refine ⟨_, rfl, _, rfl, x, dx, _, _, rfl, hxE, ty_dp hdE, J.nT, x, dx, _, _, _, _, rfl, hxE, hdE, shaped_sz ps, .inr ⟨_, ty_dp hdE, J.kT, _, rfl, _, rfl, no_of rfl ?_⟩⟩
            refine ⟨_, rfl, _, rfl, a1, xsE, rfl, .inr hqE, x, dx, _, _, rfl, hxE, .base (.int _), J.nI, x, dx, _, _, _, _, rfl, hxE, hdE, shaped_sz ps, .inr ⟨_, .base (.int _), J.kI, _, rfl, _, rfl, no_of rfl ?_⟩⟩
            refine ⟨_, rfl, rfl, _, rfl, no_of rfl ?_⟩
            exact ⟨_, _, _, _, _, _, _, _, rfl, hpA.same sE, kpE_L, hlE, hKE⟩
    · rintro σ H2 ⟨v3, v4, v5, v6, v7, v8, v9, kv, rfl, hp2, hL2, lk, hK⟩
      refine ⟨_, rfl, L, rfl, ⟨kv, SqL.of hL2⟩, for_list (fun j σ H3 => H3 = H2 ∧ ∃ (v4 v5 v10 v11 : Option V), σ = [some (.ref a), some (.ref p), some (.ref L), v3, v4, v5, v6, v7, v8, v9, v10, v11])
        ⟨rfl, _, _, _, _, rfl⟩ (fun j σ H3 hj z => by rw [z.1]; exact SqL.of hL2) (fun j u σ H3 hu z => ?_) (fun σ H3 z => ?_)⟩
      · obtain ⟨rfl, v4, v5, v10, v11, rfl⟩ := z
        obtain ⟨t, b, y, dy, qs, n, rfl, h1, h2, h3⟩ := hK u (List.mem_of_getElem? hu)
        refine ⟨t, _, rfl, SqT.of h1, rfl, _, _, rfl, _, _, rfl, rfl, ?_⟩
        refine ⟨_, rfl, L, rfl, ⟨kv, SqL.of hL2⟩, for_list (fun j σ H4 => H4 = H3 ∧ ∃ (v10 v11 : Option V), σ = [some (.ref a), some (.ref p), some (.ref L), v3, some (.ref b), some (.ref y), v6, v7, v8, v9, v10, v11])
          ⟨rfl, _, _, rfl⟩ (fun j σ H3 hj z => by rw [z.1]; exact SqL.of hL2) (fun j u σ H3 hu z => ?_) (fun σ H4 z => ?_)⟩
        · obtain ⟨rfl, v10, v11, rfl⟩ := z
          obtain ⟨t2, b2, y2, dy2, qs2, n2, rfl, g1, g2, g3⟩ := hK u (List.mem_of_getElem? hu)
          refine ⟨t2, _, rfl, SqT.of g1, rfl, _, _, rfl, _, _, rfl, rfl, ?_⟩
          refine ⟨_, rfl, _, rfl, y, dy, _, _, rfl, h3, J.ty T g3, not_first, y, dy, _, _, _, _, rfl, h3, h2, shaped_sz qs, .inl ⟨y2, dy2, _, _, _, rfl, g3, g2, shaped_sz qs2, _, rfl, ?_⟩⟩
          refine ⟨_, rfl, _, rfl, _, _, h2, g2, shaped_sz qs, shaped_sz qs2, ?_⟩
          refine ⟨rfl, _, rfl, no_of (by simp) ?_⟩
          exact ⟨rfl, _, _, rfl⟩
        · obtain ⟨rfl, v10, v11, rfl⟩ := z
          exact ⟨rfl, _, _, _, _, rfl⟩
      · obtain ⟨rfl, v4, v5, v10, v11, rfl⟩ := z
        exact k _
end
end My

set_option maxRecDepth 100000
set_option maxHeartbeats 4000000
namespace My
open PySem PySem.Spec PyProof.Rows L2 GL
theorem kit_f {K : PySem.W.Frag} {t : Value} {C : Addr} (h0 : (t == Value.ref C) = false) (h1 : PySem.W.isClsIn K C = true) (h2 : PySem.W.typeIn K (.ref C) = some (.type "type")) (h3 : PySem.W.subIn K t (.ref C) = some false) : PySem.W.kitOne K t (.ref C) = some false := by
  have e : ((PySem.W.clsIn K C).isSome && PySem.W.typeIn K (.ref C) == some (.type "type")) = true := by
    have h : (PySem.W.clsIn K C).isSome = true := h1
    rw [h, h2] <;> rfl
  show (if (t == Value.ref C) = true then some true else (if ((PySem.W.clsIn K C).isSome && PySem.W.typeIn K (.ref C) == some (.type "type")) = true then PySem.W.subIn K t (.ref C) else none)) = some false
  rw [h0, if_neg Bool.false_ne_true, if_pos e]
  exact h3
theorem kit_t {K : PySem.W.Frag} {t : Value} {C : Addr} (h1 : PySem.W.isClsIn K C = true) (h2 : PySem.W.typeIn K (.ref C) = some (.type "type")) (h3 : PySem.W.subIn K t (.ref C) = some true) : PySem.W.kitOne K t (.ref C) = some true := by
  have e : ((PySem.W.clsIn K C).isSome && PySem.W.typeIn K (.ref C) == some (.type "type")) = true := by
    have h : (PySem.W.clsIn K C).isSome = true := h1
    rw [h, h2] <;> rfl
  show (if (t == Value.ref C) = true then some true else (if ((PySem.W.clsIn K C).isSome && PySem.W.typeIn K (.ref C) == some (.type "type")) = true then PySem.W.subIn K t (.ref C) else none)) = some true
  cases hq : (t == Value.ref C) with
  | true => rfl
  | false =>
    rw [if_neg Bool.false_ne_true, if_pos e]
    exact h3
theorem kit_tt {K : PySem.W.Frag} {t : Value} {T : String} (h0 : (t == Value.type T) = false) (h1 : PySem.W.kitMeta T = true) (h3 : PySem.W.subIn K t (.type T) = some true) : PySem.W.kitOne K t (.type T) = some true := by
  show (if (t == Value.type T) = true then some true else (if PySem.W.kitMeta T = true then PySem.W.subIn K t (.type T) else none)) = some true
  rw [h0, if_neg Bool.false_ne_true, if_pos h1]
  exact h3
theorem exm_id {K : PySem.W.Frag} {D : Addr} (c1 : PySem.W.isClsIn K D = true) (c2 : PySem.W.typeIn K (.ref D) = some (.type "type")) (c3 : PySem.W.subIn K (.ref D) (.type "BaseException") = some true)
    (c4 : PySem.W.subIn K (.ref D) (.ref D) = some true) : PySem.W.exmOne K (.ref D) (.ref D) = some true := by
  have e : ((PySem.W.clsIn K D).isSome && PySem.W.typeIn K (.ref D) == some (.type "type")) = true := by
    have h : (PySem.W.clsIn K D).isSome = true := c1
    rw [h, c2] <;> rfl
  unfold PySem.W.exmOne
  rw [c3, if_pos (by rfl)]
  show (if ((PySem.W.clsIn K D).isSome && PySem.W.typeIn K (.ref D) == some (.type "type")) = true then PySem.W.subIn K (.ref D) (.ref D) else none) = some true
  rw [if_pos e]
  exact c4
theorem all_mk {P : Program} {w : World} {K : PySem.W.Frag} {h : Heap} {mg : Str → Option Value} {fa : Addr} (X : K.In h) (G : h.Ns mainGlobals mg) (hfa : mg "law" = some (.ref fa))
    {fi fr ft fz fp fd fe fs fn fj fu fk fb fl fB fX fQ C CB CS : Addr} {odi ani odr anr odt ant odz anz odp anp odd and ode ane ods ans odn ann odj anj odu anu odk ank odb anb odl anl odB anB odX anX odQ anQ : Option Addr} {sli slr slt slz slp sld sle sls sln slj slu slk slb sll slB slX slQ : Array (Option Value)} {oci kVi dci pmi cdi cti ocr kVr dcr pmr cdr ctr oct kVt dct pmt cdt ctt ocz kVz dcz pmz cdz ctz ocp kVp dcp pmp cdp ctp ocd kVd dcd pmd cdd ctd oce kVe dce pme cde cte ocs kVs dcs pms cds cts ocn kVn dcn pmn cdn ctn ocj kVj dcj pmj cdj ctj ocu kVu dcu pmu cdu ctu ock kVk dck pmk cdk ctk ocb kVb dcb pmb cdb ctb ocl kVl dcl pml cdl ctl ocB kVB dcB pmB cdB ctB ocX kVX dcX pmX cdX ctX ocQ kVQ dcQ pmQ cdQ ctQ : Value} {tM tL : Tok}
    {nmB qB : Str} {NB : Addr} {bsB bmB : List Value} {snB : List Str} {subB : List Value} {abB : Bool} {colB : Option Bool} {ddB : Option Addr} {m0 m1 m2 m3 m5 : Option Value}
    (aC : PySem.W.nsIn K mainGlobals "Boxes" = some (some (.ref C)))
    (aB : PySem.W.nsIn K mainGlobals "BadBoxes" = some (some (.ref CB)))
    (aS : PySem.W.nsIn K mainGlobals "StrokeError" = some (some (.ref CS)))
    (mM : PySem.W.nsIn K mainGlobals "MOST_BOXES" = some (some (.int 40 tM)))
    (mL : PySem.W.nsIn K mainGlobals "LONGEST" = some (some (.int 1000 tL)))
    (gi : PySem.W.nsIn K mainGlobals "is_integer" = some (some (.ref fi)))
    (li : K.lookup fi = some ⟨oci, odi, .func (PySem.W.fnOf "is_integer" "is_integer" (defArgs sIsInteger) (defBody sIsInteger) (defScope sIsInteger) .none kVi dci pmi ani cdi cti), sli⟩)
    (ci : PySem.W.codeIn K cdi "is_integer" = true)
    (ki : PySem.W.keepIn K (.ref fi) = true)
    (gr : PySem.W.nsIn K mainGlobals "is_integer_from" = some (some (.ref fr)))
    (lr : K.lookup fr = some ⟨ocr, odr, .func (PySem.W.fnOf "is_integer_from" "is_integer_from" (defArgs sIntFrom) (defBody sIntFrom) (defScope sIntFrom) .none kVr dcr pmr anr cdr ctr), slr⟩)
    (cr : PySem.W.codeIn K cdr "is_integer_from" = true)
    (kr : PySem.W.keepIn K (.ref fr) = true)
    (gt : PySem.W.nsIn K mainGlobals "is_tuple_of" = some (some (.ref ft)))
    (lt : K.lookup ft = some ⟨oct, odt, .func (PySem.W.fnOf "is_tuple_of" "is_tuple_of" (defArgs sTupOf) (defBody sTupOf) (defScope sTupOf) .none kVt dct pmt ant cdt ctt), slt⟩)
    (ct : PySem.W.codeIn K cdt "is_tuple_of" = true)
    (kt : PySem.W.keepIn K (.ref ft) = true)
    (gz : PySem.W.nsIn K mainGlobals "is_size" = some (some (.ref fz)))
    (lz : K.lookup fz = some ⟨ocz, odz, .func (PySem.W.fnOf "is_size" "is_size" (defArgs sIsSize) (defBody sIsSize) (defScope sIsSize) .none kVz dcz pmz anz cdz ctz), slz⟩)
    (cz : PySem.W.codeIn K cdz "is_size" = true)
    (kz : PySem.W.keepIn K (.ref fz) = true)
    (gp : PySem.W.nsIn K mainGlobals "_law_pool" = some (some (.ref fp)))
    (lp : K.lookup fp = some ⟨ocp, odp, .func (PySem.W.fnOf "_law_pool" "_law_pool" (defArgs sPool) (defBody sPool) (defScope sPool) .none kVp dcp pmp anp cdp ctp), slp⟩)
    (cp : PySem.W.codeIn K cdp "_law_pool" = true)
    (kp : PySem.W.keepIn K (.ref fp) = true)
    (gd : PySem.W.nsIn K mainGlobals "_law_draw" = some (some (.ref fd)))
    (ld : K.lookup fd = some ⟨ocd, odd, .func (PySem.W.fnOf "_law_draw" "_law_draw" (defArgs sDraw) (defBody sDraw) (defScope sDraw) .none kVd dcd pmd and cdd ctd), sld⟩)
    (cd : PySem.W.codeIn K cdd "_law_draw" = true)
    (kd : PySem.W.keepIn K (.ref fd) = true)
    (ge : PySem.W.nsIn K mainGlobals "_law_deep" = some (some (.ref fe)))
    (le : K.lookup fe = some ⟨oce, ode, .func (PySem.W.fnOf "_law_deep" "_law_deep" (defArgs sDeep) (defBody sDeep) (defScope sDeep) .none kVe dce pme ane cde cte), sle⟩)
    (ce : PySem.W.codeIn K cde "_law_deep" = true)
    (ke : PySem.W.keepIn K (.ref fe) = true)
    (gs : PySem.W.nsIn K mainGlobals "_law_is" = some (some (.ref fs)))
    (ls : K.lookup fs = some ⟨ocs, ods, .func (PySem.W.fnOf "_law_is" "_law_is" (defArgs sIs) (defBody sIs) (defScope sIs) .none kVs dcs pms ans cds cts), sls⟩)
    (cs : PySem.W.codeIn K cds "_law_is" = true)
    (ks : PySem.W.keepIn K (.ref fs) = true)
    (gn : PySem.W.nsIn K mainGlobals "_law_is_int" = some (some (.ref fn)))
    (ln : K.lookup fn = some ⟨ocn, odn, .func (PySem.W.fnOf "_law_is_int" "_law_is_int" (defArgs sIsInt) (defBody sIsInt) (defScope sIsInt) .none kVn dcn pmn ann cdn ctn), sln⟩)
    (cn : PySem.W.codeIn K cdn "_law_is_int" = true)
    (kn : PySem.W.keepIn K (.ref fn) = true)
    (gj : PySem.W.nsIn K mainGlobals "_law_sizes" = some (some (.ref fj)))
    (lj : K.lookup fj = some ⟨ocj, odj, .func (PySem.W.fnOf "_law_sizes" "_law_sizes" (defArgs sSizes) (defBody sSizes) (defScope sSizes) .none kVj dcj pmj anj cdj ctj), slj⟩)
    (cj : PySem.W.codeIn K cdj "_law_sizes" = true)
    (kj : PySem.W.keepIn K (.ref fj) = true)
    (gu : PySem.W.nsIn K mainGlobals "_law_due" = some (some (.ref fu)))
    (lu : K.lookup fu = some ⟨ocu, odu, .func (PySem.W.fnOf "_law_due" "_law_due" (defArgs sDue) (defBody sDue) (defScope sDue) .none kVu dcu pmu anu cdu ctu), slu⟩)
    (cu : PySem.W.codeIn K cdu "_law_due" = true)
    (ku : PySem.W.keepIn K (.ref fu) = true)
    (gk : PySem.W.nsIn K mainGlobals "_law_tried" = some (some (.ref fk)))
    (lk : K.lookup fk = some ⟨ock, odk, .func (PySem.W.fnOf "_law_tried" "_law_tried" (defArgs sTried) (defBody sTried) (defScope sTried) .none kVk dck pmk ank cdk ctk), slk⟩)
    (ck : PySem.W.codeIn K cdk "_law_tried" = true)
    (kk : PySem.W.keepIn K (.ref fk) = true)
    (gb : PySem.W.nsIn K mainGlobals "_law_bent" = some (some (.ref fb)))
    (lb : K.lookup fb = some ⟨ocb, odb, .func (PySem.W.fnOf "_law_bent" "_law_bent" (defArgs sBent) (defBody sBent) (defScope sBent) .none kVb dcb pmb anb cdb ctb), slb⟩)
    (cb : PySem.W.codeIn K cdb "_law_bent" = true)
    (kb : PySem.W.keepIn K (.ref fb) = true)
    (gl : PySem.W.nsIn K mainGlobals "law" = some (some (.ref fl)))
    (ll : K.lookup fl = some ⟨ocl, odl, .func (PySem.W.fnOf "law" "law" (defArgs sLaw) (defBody sLaw) (defScope sLaw) .none kVl dcl pml anl cdl ctl), sll⟩)
    (cl : PySem.W.codeIn K cdl "law" = true)
    (kl : PySem.W.keepIn K (.ref fl) = true)
    (gB : PySem.W.findIn K (.ref CB) "__init__" = some (some (.ref fB)))
    (lB : K.lookup fB = some ⟨ocB, odB, .func (PySem.W.fnOf "__init__" "BadBoxes.__init__" (defArgs sBadInit) (defBody sBadInit) (defScope sBadInit) .none kVB dcB pmB anB cdB ctB), slB⟩)
    (cB : PySem.W.codeIn K cdB "BadBoxes.__init__" = true)
    (kB : PySem.W.keepIn K (.ref fB) = true)
    (gX : PySem.W.findIn K (.ref C) "__init__" = some (some (.ref fX)))
    (lX : K.lookup fX = some ⟨ocX, odX, .func (PySem.W.fnOf "__init__" "Boxes.__init__" (defArgs sBoxInit) (defBody sBoxInit) (defScope sBoxInit) .none kVX dcX pmX anX cdX ctX), slX⟩)
    (cX : PySem.W.codeIn K cdX "Boxes.__init__" = true)
    (kX : PySem.W.keepIn K (.ref fX) = true)
    (gQ : PySem.W.findIn K (.ref C) "__eq__" = some (some (.ref fQ)))
    (lQ : K.lookup fQ = some ⟨ocQ, odQ, .func (PySem.W.fnOf "__eq__" "Boxes.__eq__" (defArgs sBoxEq) (defBody sBoxEq) (defScope sBoxEq) .none kVQ dcQ pmQ anQ cdQ ctQ), slQ⟩)
    (cQ : PySem.W.codeIn K cdQ "Boxes.__eq__" = true)
    (kQ : PySem.W.keepIn K (.ref fQ) = true)
    (iX : PySem.W.isFn K (.ref fX) = true)
    (iQ : PySem.W.isFn K (.ref fQ) = true)
    (tB : PySem.W.typeIn K (.ref fB) = some (.type "function"))
    (pg : PySem.W.plainGet K C Str.empty = true)
    (hd : PySem.W.hasDictIn K C = true)
    (po : PySem.W.plainOver K C = true)
    (sa : PySem.W.findIn K (.ref C) "__setattr__" = some (some (.builtin "object.__setattr__")))
    (mk : PySem.W.makesIn K C = true)
    (kc : PySem.W.keepIn K (.ref C) = true)
    (nS : PySem.W.findIn K (.ref C) "sizes" = some none)
    (nM : PySem.W.findIn K (.ref C) "many" = some none)
    (wa : PySem.W.findIn K (.ref C) "__class__" = some (some (.builtin "object.__class__")))
    (wn : PySem.W.specialIn K (.builtin "object.__class__") "__get__" = some (some (.builtin "getset_descriptor.__get__")))
    (wt : PySem.W.takesIn K (.builtin "object.__class__") = some true)
    (wm : PySem.W.mroIn K C (.type "object") = some true)
    (v1 : PySem.W.isClsIn K C = true)
    (v2 : PySem.W.typeIn K (.ref C) = some (.type "type"))
    (v3 : PySem.W.subIn K (.type "tuple") (.ref C) = some false)
    (v4 : PySem.W.subIn K (.type "int") (.ref C) = some false)
    (nT : PySem.W.notFirst K C (.type "tuple") = true)
    (nI : PySem.W.notFirst K C (.type "int") = true)
    (xL : K.lookup CB = some (excClassObj nmB qB CB NB bsB bmB true snB subB abB colB ddB m0 m1 m2 m3 m5 "ValueError.__new__"))
    (xB : PySem.HandSPX.refsVE bmB = true)
    (xs : PySem.W.findIn K (.ref CB) "__setattr__" = some (some (.builtin "object.__setattr__")))
    (xe : PySem.W.subIn K (.ref CB) (.type "BaseException") = some true)
    (xt : PySem.W.typeIn K (.ref CB) = some (.type "type"))
    (xk : PySem.W.keepIn K (.ref CB) = true)
    (xp : PySem.W.findIn K (.ref CB) "part" = some none)
    (xg : PySem.W.findIn K (.ref CB) "__getattribute__" = some (some (.builtin "BaseException.__getattribute__")))
    (xn : PySem.W.findIn K (.ref CB) "__getattr__" = some none)
    (xd : PySem.W.hasDictIn K CB = true)
    (xc : PySem.W.findIn K (.ref CB) "__class__" = some (some (.builtin "object.__class__")))
    (xm : PySem.W.mroIn K CB (.type "object") = some true)
    (v5 : PySem.W.isClsIn K CS = true)
    (v6 : PySem.W.typeIn K (.ref CS) = some (.type "type"))
    (v7 : PySem.W.subIn K (.ref CB) (.ref CS) = some true)
    (v8 : PySem.W.subIn K (.ref CB) (.type "ValueError") = some true)
    (v9 : PySem.W.isClsIn K CB = true)
    (v10 : PySem.W.subIn K (.ref CB) (.ref CB) = some true)
    (z_int : PySem.W.nsIn K mainGlobals "int" = some none)
    (z_sum : PySem.W.nsIn K mainGlobals "sum" = some none)
    (z_len : PySem.W.nsIn K mainGlobals "len" = some none)
    (z_abs : PySem.W.nsIn K mainGlobals "abs" = some none)
    (z_range : PySem.W.nsIn K mainGlobals "range" = some none)
    (z_isinstance : PySem.W.nsIn K mainGlobals "isinstance" = some none)
    (z_bool : PySem.W.nsIn K mainGlobals "bool" = some none)
    (z_tuple : PySem.W.nsIn K mainGlobals "tuple" = some none)
    (z_list : PySem.W.nsIn K mainGlobals "list" = some none)
    (z_all : PySem.W.nsIn K mainGlobals "all" = some none)
    (z_enumerate : PySem.W.nsIn K mainGlobals "enumerate" = some none)
    (z_repr : PySem.W.nsIn K mainGlobals "repr" = some none)
    (z_ValueError : PySem.W.nsIn K mainGlobals "ValueError" = some none) :
    ∃ fd : FuncData, (∀ (s : Shared) (v : Value), BindsTo s fd ⟨[v], []⟩ [("script", v)]) ∧ ∀ base : Heap, K.In base → base.Ns mainGlobals mg → FnG P w K mg base 7 fa fd ["script"] (spLaw K) := by
  have e := hfa.symm.trans (PySem.W.mg_of X G gl)
  cases e
  have N : Nm mg := ⟨PySem.W.mg_none_of X G z_int, PySem.W.mg_none_of X G z_sum, PySem.W.mg_none_of X G z_len, PySem.W.mg_none_of X G z_abs, PySem.W.mg_none_of X G z_range, PySem.W.mg_none_of X G z_isinstance, PySem.W.mg_none_of X G z_bool, PySem.W.mg_none_of X G z_tuple, PySem.W.mg_none_of X G z_list, PySem.W.mg_none_of X G z_all, PySem.W.mg_none_of X G z_enumerate, PySem.W.mg_none_of X G z_repr, PySem.W.mg_none_of X G z_ValueError⟩
  have T : BTxt K mg C CB fB := ⟨⟨pg, hd, po, sa⟩, nS, nM, PySem.W.mg_of X G aC, ⟨⟨nmB, qB, NB, bsB, bmB, snB, subB, abB, colB, ddB, m0, m1, m2, m3, m5, xL, xB⟩, xs, xe, xt, xk⟩, xp, PySem.W.mg_of X G aB, gB, tB⟩
  have XF : XfC K CB := ⟨xg, xn, xe, xd⟩
  have J : ITxt K mg C CB CS := ⟨wa, wn, wt, wm, kit_f rfl v1 v2 v3, kit_f rfl v1 v2 v4, nT, nI, ⟨xg, xn, xe, xd, xc, wn, wt, xm⟩, PySem.W.mg_of X G aS, kit_t v5 v6 v7, kit_tt rfl rfl v8, exm_id v9 xt xe v10⟩
  have Fi := fun_mk (st := sIsInteger) li ci ki
  have bi := Fi.binds (ps := ["thing"]) fun _ _ _ _ _ _ us hl => match us, hl with | [_], _ => rfl
  have Fr := fun_mk (st := sIntFrom) lr cr kr
  have br := Fr.binds (ps := ["thing", "low", "high"]) fun _ _ _ _ _ _ us hl => match us, hl with | [_, _, _], _ => rfl
  have Ft := fun_mk (st := sTupOf) lt ct kt
  have bt := Ft.binds (ps := ["thing", "many"]) fun _ _ _ _ _ _ us hl => match us, hl with | [_, _], _ => rfl
  have Fz := fun_mk (st := sIsSize) lz cz kz
  have bz := Fz.binds (ps := ["thing"]) fun _ _ _ _ _ _ us hl => match us, hl with | [_], _ => rfl
  have Fp := fun_mk (st := sPool) lp cp kp
  have bp := Fp.binds (ps := ["script"]) fun _ _ _ _ _ _ us hl => match us, hl with | [_], _ => rfl
  have Fd := fun_mk (st := sDraw) ld cd kd
  have bd := Fd.binds (ps := ["pool", "many"]) fun _ _ _ _ _ _ us hl => match us, hl with | [_, _], _ => rfl
  have Fe := fun_mk (st := sDeep) le ce ke
  have be := Fe.binds (ps := []) fun _ _ _ _ _ _ us hl => match us, hl with | [], _ => rfl
  have Fs := fun_mk (st := sIs) ls cs ks
  have bs := Fs.binds (ps := ["told", "due"]) fun _ _ _ _ _ _ us hl => match us, hl with | [_, _], _ => rfl
  have Fn := fun_mk (st := sIsInt) ln cn kn
  have bn := Fn.binds (ps := ["thing", "least", "most"]) fun _ _ _ _ _ _ us hl => match us, hl with | [_, _, _], _ => rfl
  have Fj := fun_mk (st := sSizes) lj cj kj
  have bj := Fj.binds (ps := ["pool", "most"]) fun _ _ _ _ _ _ us hl => match us, hl with | [_, _], _ => rfl
  have Fu := fun_mk (st := sDue) lu cu ku
  have bu := Fu.binds (ps := ["thing"]) fun _ _ _ _ _ _ us hl => match us, hl with | [_], _ => rfl
  have Fk := fun_mk (st := sTried) lk ck kk
  have bk := Fk.binds (ps := ["thing"]) fun _ _ _ _ _ _ us hl => match us, hl with | [_], _ => rfl
  have Fb := fun_mk (st := sBent) lb cb kb
  have bb := Fb.binds (ps := ["pool", "thing"]) fun _ _ _ _ _ _ us hl => match us, hl with | [_, _], _ => rfl
  have Fl := fun_mk (st := sLaw) ll cl kl
  have FB := fun_mk (st := sBadInit) lB cB kB
  have bB := FB.binds (ps := ["self", "part"]) fun _ _ _ _ _ _ us hl => match us, hl with | [_, _], _ => rfl
  have FX := fun_mk (st := sBoxInit) lX cX kX
  have bX := FX.binds (ps := ["self", "sizes"]) fun _ _ _ _ _ _ us hl => match us, hl with | [_, _], _ => rfl
  have FQ := fun_mk (st := sBoxEq) lQ cQ kQ
  have bQ := FQ.binds (ps := ["self", "other"]) fun _ _ _ _ _ _ us hl => match us, hl with | [_, _], _ => rfl
  refine ⟨PySem.W.fnOf "law" "law" (defArgs sLaw) (defBody sLaw) (defScope sLaw) .none kVl dcl pml anl cdl ctl, fun s v => .of_eq rfl, fun base _ _ => ?_⟩
  have Gi := ok_isInteger (P := P) (w := w) (base := base) Fi N
  have Gr := ok_intFrom Fr Gi (PySem.W.mg_of X G gi) ki bi
  have Gt := ok_tupOf (P := P) (w := w) (base := base) Ft N
  have Gz := ok_isSize Fz N Gt (PySem.W.mg_of X G gt) kt bt Gr (PySem.W.mg_of X G gr) kr br (PySem.W.mg_of X G mL)
  have Gp := ok_pool (P := P) (w := w) (base := base) Fp N
  have Gd := ok_draw (P := P) (w := w) (K := K) (base := base) Fd N
  have Ge := ok_deep (P := P) (w := w) (base := base) Fe N
  have Gs := ok_is (P := P) (w := w) (base := base) Fs N
  have Gn := ok_isInt (P := P) (w := w) (base := base) Fn N
  have Gj := ok_sizes Fj N Gd (PySem.W.mg_of X G gd) kd bd
  have Gu := ok_due Fu N Gn (PySem.W.mg_of X G gn) kn bn
  have GB := ok_badInit (P := P) (w := w) (base := base) FB T
  have GX := ok_boxInit FX N T Gz (PySem.W.mg_of X G gz) kz bz GB bB (PySem.W.mg_of X G mM)
  have GQ := ok_boxEq (P := P) (w := w) (base := base) FQ N T J
  have Gk := ok_tried Fk N T J ⟨mk, gX, iX, kc⟩ XF GX bX
  have Gb := ok_bent Fb N Gd (PySem.W.mg_of X G gd) kd bd Ge (PySem.W.mg_of X G ge) ke be
  exact ok_law Fl N T J Gp ⟨PySem.W.mg_of X G gp, kp, bp⟩ Gd ⟨PySem.W.mg_of X G gd, kd, bd⟩ Gj ⟨PySem.W.mg_of X G gj, kj, bj⟩ Gk ⟨PySem.W.mg_of X G gk, kk, bk⟩ Gs ⟨PySem.W.mg_of X G gs, ks, bs⟩ Gb ⟨PySem.W.mg_of X G gb, kb, bb⟩ Gu ⟨PySem.W.mg_of X G gu, ku, bu⟩ GQ bQ gQ iQ
end My

open PySem PySem.W PyProof.Rows
set_option maxRecDepth 100000 in
set_option maxHeartbeats 8000000 in
theorem PySem.Challenge.cw_fourstrokes_k01_boxes_judged_and_kept_holds : PySem.Challenge.rw_fourstrokes_k01_boxes_judged_and_kept.Holds := by
  w_on; o_law; k_head; (case hw => w_witness2)
  k_fill
  refine GL.walkG (l := PySem.Challenge.rw_fourstrokes_k01_boxes_judged_and_kept) (k := 7) (x := "script") (sp := My.spLaw) rfl (by decide) rfl ⟨rfl, by decide, by decide⟩ (fun w h Y => PySem.W.kIn_of Y) ?F (fun _ _ a ns hl _ hS => ⟨a, ns, rfl, hS, hl, fun _ => rfl⟩)
  case F =>
    intro w mg fa h KX G hmg
    refine' My.all_mk KX G hmg ?q_aC ?q_aB ?q_aS ?q_mM ?q_mL ?q_gi ?q_li ?q_ci ?q_ki ?q_gr ?q_lr ?q_cr ?q_kr ?q_gt ?q_lt ?q_ct ?q_kt ?q_gz ?q_lz ?q_cz ?q_kz ?q_gp ?q_lp ?q_cp ?q_kp ?q_gd ?q_ld ?q_cd ?q_kd ?q_ge ?q_le ?q_ce ?q_ke ?q_gs ?q_ls ?q_cs ?q_ks ?q_gn ?q_ln ?q_cn ?q_kn ?q_gj ?q_lj ?q_cj ?q_kj ?q_gu ?q_lu ?q_cu ?q_ku ?q_gk ?q_lk ?q_ck ?q_kk ?q_gb ?q_lb ?q_cb ?q_kb ?q_gl ?q_ll ?q_cl ?q_kl ?q_gB ?q_lB ?q_cB ?q_kB ?q_gX ?q_lX ?q_cX ?q_kX ?q_gQ ?q_lQ ?q_cQ ?q_kQ ?q_iX ?q_iQ ?q_tB ?q_pg ?q_hd ?q_po ?q_sa ?q_mk ?q_kc ?q_nS ?q_nM ?q_wa ?q_wn ?q_wt ?q_wm ?q_v1 ?q_v2 ?q_v3 ?q_v4 ?q_nT ?q_nI ?q_xL ?q_xB ?q_xs ?q_xe ?q_xt ?q_xk ?q_xp ?q_xg ?q_xn ?q_xd ?q_xc ?q_xm ?q_v5 ?q_v6 ?q_v7 ?q_v8 ?q_v9 ?q_v10 ?q_z_int ?q_z_sum ?q_z_len ?q_z_abs ?q_z_range ?q_z_isinstance ?q_z_bool ?q_z_tuple ?q_z_list ?q_z_all ?q_z_enumerate ?q_z_repr ?q_z_ValueError
    (case q_aC => k_is)
    (case q_aB => k_is)
    (case q_aS => k_is)
    (case q_mM => k_is)
    (case q_mL => k_is)
    (case q_gi => k_is)
    (case q_li => k_is)
    (case q_ci => k_is)
    (case q_ki => k_is)
    (case q_gr => k_is)
    (case q_lr => k_is)
    (case q_cr => k_is)
    (case q_kr => k_is)
    (case q_gt => k_is)
    (case q_lt => k_is)
    (case q_ct => k_is)
    (case q_kt => k_is)
    (case q_gz => k_is)
    (case q_lz => k_is)
    (case q_cz => k_is)
    (case q_kz => k_is)
    (case q_gp => k_is)
    (case q_lp => k_is)
    (case q_cp => k_is)
    (case q_kp => k_is)
    (case q_gd => k_is)
    (case q_ld => k_is)
    (case q_cd => k_is)
    (case q_kd => k_is)
    (case q_ge => k_is)
    (case q_le => k_is)
    (case q_ce => k_is)
    (case q_ke => k_is)
    (case q_gs => k_is)
    (case q_ls => k_is)
    (case q_cs => k_is)
    (case q_ks => k_is)
    (case q_gn => k_is)
    (case q_ln => k_is)
    (case q_cn => k_is)
    (case q_kn => k_is)
    (case q_gj => k_is)
    (case q_lj => k_is)
    (case q_cj => k_is)
    (case q_kj => k_is)
    (case q_gu => k_is)
    (case q_lu => k_is)
    (case q_cu => k_is)
    (case q_ku => k_is)
    (case q_gk => k_is)
    (case q_lk => k_is)
    (case q_ck => k_is)
    (case q_kk => k_is)
    (case q_gb => k_is)
    (case q_lb => k_is)
    (case q_cb => k_is)
    (case q_kb => k_is)
    (case q_gl => k_is)
    (case q_ll => k_is)
    (case q_cl => k_is)
    (case q_kl => k_is)
    (case q_gB => k_is)
    (case q_lB => k_is)
    (case q_cB => k_is)
    (case q_kB => k_is)
    (case q_gX => k_is)
    (case q_lX => k_is)
    (case q_cX => k_is)
    (case q_kX => k_is)
    (case q_gQ => k_is)
    (case q_lQ => k_is)
    (case q_cQ => k_is)
    (case q_kQ => k_is)
    (case q_iX => k_is)
    (case q_iQ => k_is)
    (case q_tB => k_is)
    (case q_pg => k_is)
    (case q_hd => k_is)
    (case q_po => k_is)
    (case q_sa => k_is)
    (case q_mk => k_is)
    (case q_kc => k_is)
    (case q_nS => k_is)
    (case q_nM => k_is)
    (case q_wa => k_is)
    (case q_wn => k_is)
    (case q_wt => k_is)
    (case q_wm => k_is)
    (case q_v1 => k_is)
    (case q_v2 => k_is)
    (case q_v3 => k_is)
    (case q_v4 => k_is)
    (case q_nT => k_is)
    (case q_nI => k_is)
    (case q_xL => k_is)
    (case q_xB => decide +kernel)
    (case q_xs => k_is)
    (case q_xe => k_is)
    (case q_xt => k_is)
    (case q_xk => k_is)
    (case q_xp => k_is)
    (case q_xg => k_is)
    (case q_xn => k_is)
    (case q_xd => k_is)
    (case q_xc => k_is)
    (case q_xm => k_is)
    (case q_v5 => k_is)
    (case q_v6 => k_is)
    (case q_v7 => k_is)
    (case q_v8 => k_is)
    (case q_v9 => k_is)
    (case q_v10 => first | rfl | k_is)
    (case q_z_int => k_is)
    (case q_z_sum => k_is)
    (case q_z_len => k_is)
    (case q_z_abs => k_is)
    (case q_z_range => k_is)
    (case q_z_isinstance => k_is)
    (case q_z_bool => k_is)
    (case q_z_tuple => k_is)
    (case q_z_list => k_is)
    (case q_z_all => k_is)
    (case q_z_enumerate => k_is)
    (case q_z_repr => k_is)
    (case q_z_ValueError => k_is)
