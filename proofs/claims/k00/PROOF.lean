import PyProof.Rows.All
import Wide.All
import OpenK.AllK
import Wide.FinOn
import HandS.ForMost
import HandS.ForExc
import HandS.IsInst
import HandS.TupAny
import HandS.TupMul
import HandS.ExcInit
import HandS.ExcField
import HandS.ExcIs
import HandS.SetFor
import HandS.Zip
import HandS.WordsDict
import KE.KExcIs
import PySem.Challenge.RW_fourstrokes_k00_errors_of_the_package
set_option Elab.async false
set_option linter.all false
set_option maxRecDepth 100000
set_option maxHeartbeats 4000000
/-! Defs whose text asks repr: the calls below hold where no repr is under way (guards are known to be none). -/
namespace GL
open PySem PySem.Spec PyProof.Rows L2
/-! ### data -/
theorem seqT_up {K : PySem.W.Frag} {G H : Hp} {a : Addr} {xs : List V} (e : Same G H) (h : SqT K G a xs) : SqT K H a xs := by
  cases h with
  | inl h =>
    cases h with
    | inl h => exact Or.inl (Or.inl (e _ _ h))
    | inr h => exact h.elim fun o q => Or.inl (Or.inr ⟨o, e _ _ q⟩)
  | inr h => exact Or.inr h
mutual
theorem dp_up {K : PySem.W.Frag} {G H : Hp} (e : Same G H) : ∀ (d : PyData) (v : V), Dp K G v d → Dp K H v d
  | .none, _, h => by cases h; exact .non
  | .bool b, _, h => by cases h; exact .bl b
  | .int i, _, h => by cases h; exact .int i
  | .str x, _, h => by cases h; exact .str x
  | .list ds, _, h => by
    cases h with
    | lst q r => exact .lst (e.seq q) (dpAll_up e ds _ r)
  | .tuple ds, _, h => by
    cases h with
    | tup q r => exact .tup (seqT_up e q) (dpAll_up e ds _ r)
  | .dict _, _, h => by cases h
theorem dpAll_up {K : PySem.W.Frag} {G H : Hp} (e : Same G H) : ∀ (ds : List PyData) (vs : List V), DpAll K G vs ds → DpAll K H vs ds
  | [], _, h => by cases h; exact .nil
  | d :: ds, _, h => by
    cases h with
    | cons q r => exact .cons (dp_up e d _ q) (dpAll_up e ds _ r)
end
/-! ### defs and calls where no repr is under way -/
structure FnG (P : Program) (w : World) (K : PySem.W.Frag) (mg : Str → Option Value) (base : Heap) (k : Nat) (f : Addr) (fd : FuncData) (ps : List Str) (sp : Sp) : Prop where
  size : ∀ vs H Q, sp vs H Q E0 → vs.length = ps.length
  does : ∀ (A : Around) (up : List Env) (s : Shared) (H : Hp) (ar : Args) (us : List Value) (vs : List V) (Q : VK), A.guards = some [] → Room k A → Env0 P w K mg base A up s H → BindsTo s fd ar (ps.zip us) → Vals vs us → sp vs H Q E0 →
    codeAny (model P w) A (.call (.ref f) ar) (CR CX0 up P w H s Q E0) s
section
variable {P : Program} {w : World} {K : PySem.W.Frag} {mg : Str → Option Value} {base : Heap}
theorem _root_.L2.Fun.okG {x qual : Str} {st : Stmt} {f : Addr} {fd : FuncData} {N ps : List Str} {k : Nat} {sp : Sp} (F : Fun K x qual st f fd) (S : FnScope N ps (defScope st)) (size : ∀ vs H Q, sp vs H Q E0 → vs.length = ps.length)
    (body : ∀ (cdv : Value) (A : Around) (up : List Env) (s : Shared) (H : Hp) (vs : List V) (Q : VK), A.guards = some [] → Room k (A.deeper (envOfC qual (defScope st) s.heap.objs.size f cdv)) → sp vs H Q E0 →
      ∃ t, PSs (cxOf CX0 P w K mg base N qual (defScope st) f cdv A up s H E0).nox (defBody st) t ∧ t { nx := fun _ H' => Q .non H', rt := Q } (start N vs) H) : FnG P w K mg base (k + 1) f fd ps sp := by
  obtain ⟨oc, od, kV, doc, pm, an, cdv, ct, osl, rfl, lk, hcd⟩ := F.ex
  refine ⟨size, ?_⟩
  intro A up s H ar us vs Q hg hr env hb rv hsp
  have nvs := size _ _ _ hsp
  have st0 : ∀ b o, base.get? b = some o → s.heap.get? b = some o := fun b o z => (env.bs b o z).1
  have inK := env.mod.kin.keeps st0
  have kinds : ∀ y ∈ ps.zip us, (defScope st).names.lookup y.1 = some .local ∨ ((defScope st).names.lookup y.1 = some .cell ∧ ((cellsFrom (s.heap.objs.size + 1) (defScope st).names []).lookup y.1).isSome = true) := by
    intro y hy
    have hp := S.par y.1 (List.of_mem_zip (a := y.1) (b := y.2) hy).1
    exact hp.imp id fun z => ⟨z, PySem.W.cellsFrom_some _ _ _ (.inl z)⟩
  refine codeAny_call_function hr.depth (inK _ _ lk) rfl S.co S.gen rfl (PySem.W.codeRec_of inK hcd) (hb _ _ _ _ ?_)
  refine wpAny_newFunctionEnv_cells S.kind kinds ?_
  rintro env' rfl s1 ic
  refine ⟨(env.mod.nolimit.keeps st0).keeps ic.toInCall.keep, codeAny_func ?_⟩
  obtain ⟨t, ht, hq⟩ := body cdv A up s H vs Q hg (hr.deeper _) hsp
  have J := inv_start (CX := CX0) (P := P) (w := w) (E := E0) S hr.hd env nvs rv ic
  refine wpAny_mono (ht.nox.run [] s1 (start N vs) H _ J hq) (fun fl s' z => ?_) (fun _ _ z => z)
  cases fl with
  | ret u =>
    obtain ⟨v, σ', H', J', r', q'⟩ := z
    exact ⟨v, H', J'.os, J'.bare, J'.base, J'.hok, r', q'⟩
  | next =>
    obtain ⟨σ', H', J', q'⟩ := z
    exact ⟨.non, H', J'.os, J'.bare, J'.base, J'.hok, rfl, q'⟩
  | brk => obtain ⟨_, _, _, z⟩ := z; exact z.elim
  | cont => obtain ⟨_, _, _, z⟩ := z; exact z.elim
end
end GL
set_option maxRecDepth 100000
set_option maxHeartbeats 4000000
namespace GL
open PySem PySem.Spec PyProof.Rows L2
/-- where a law's call begins: an abstract heap that bears the script alone -/
structure Begin (P : Program) (w : World) (K : PySem.W.Frag) (mg : Str → Option Value) (s : Shared) (a : Addr) (ns : List Int) (H : Hp) : Prop where
  only : Only H
  seq : SqL K H a (ns.map V.int)
  ok : HOk P w H s.heap
  at_ : ∀ b u, H b = some u → b = a ∧ K.lookup a = none
section
variable {P : Program} {w : World} {K : PySem.W.Frag} {mg mb : Str → Option Value} {k : Nat} {fa a : Addr} {fd : FuncData} {x : Str} {sp : Sp} {s : Shared} {vs : List Value} {ns : List Int}
theorem begin_of (KX : K.In s.heap) (ha : s.heap.get? a = some { cls := .type "list", data := .seq vs.toArray }) (hi : IntsAre vs ns) (hl : ns.length ≤ sizeLine) : ∃ H, Begin P w K mg s a ns H := by
  have rv := vals_ints hi
  by_cases hk : K.lookup a = none
  · let H0 : Hp := upd (fun _ => none) a (.frz { cls := .type "list", data := .seq vs.toArray } (.lst (ns.map V.int)))
    have h0 : ∀ b u, H0 b = some u → b = a := fun b u z => Classical.byContradiction fun nb => by
      have z' : (none : Option HO) = some u := (upd_ne nb).symm.trans z
      cases z'
    refine ⟨H0, fun b => ?_, .inl (.inr ⟨_, upd_same⟩), fun b u z => ?_, fun b u z => ⟨h0 b u z, hk⟩⟩
    · by_cases nb : b = a
      · subst nb; exact .inr ⟨_, _, upd_same⟩
      · exact .inl (upd_ne nb)
    · have eb := h0 b u z
      subst eb
      have eu := Option.some.inj (upd_same.symm.trans z)
      subst eu
      exact ⟨ha, by rw [List.length_map]; exact hl, vs, _, rv, ha⟩
  · obtain ⟨o, ho⟩ := Option.ne_none_iff_exists'.mp hk
    have eo := Option.some.inj ((KX a o ho).symm.trans ha)
    subst eo
    refine ⟨fun _ => none, fun _ => .inl rfl, .inr ⟨_, vs.toArray, _, ho, rfl, rfl, rfl, ?_, rv⟩, fun b u z => (nomatch z), fun b u z => (nomatch z)⟩
    rw [List.size_toArray, hi.length]
    exact hl
theorem lawG (KX : K.In s.heap) (hns : s.heap.Ns mainGlobals mg) (hb : s.heap.Ns builtinsNs mb) (hbb : ∀ y : Str, y ≠ "__name__" → mb y = bootBuiltins y) (lim : s.heap.NoLimit) (hg : s.gens = #[])
    (ha : s.heap.get? a = some { cls := .type "list", data := .seq vs.toArray }) (hi : IntsAre vs ns) (hl : ns.length ≤ sizeLine) (hr : Room k callerA)
    (F : ∀ base : Heap, K.In base → base.Ns mainGlobals mg → FnG P w K mg base k fa fd [x] sp) (bnd : ∀ (s : Shared) (u : Value), BindsTo s fd ⟨[u], []⟩ [(x, u)])
    (hsp : ∀ H : Hp, Only H → SqL K H a (ns.map V.int) → sp [.ref a] H (fun v _ => v = .bl true) E0) :
    codeAny (model P w) callerA (.call (.ref fa) ⟨[.ref a], []⟩) (fun r s' => r = .ok (.ret (.bool true)) ∧ OldK s.heap s'.heap ∧ s'.os = s.os ∧ AllBare s'.gens) s := by
  obtain ⟨H, B⟩ := begin_of (P := P) (w := w) (mg := mg) KX ha hi hl
  have bare : ∀ b o, K.lookup b = some o → H b = none := fun b o z => by
    cases e : H b with
    | none => rfl
    | some u =>
      obtain ⟨rfl, n⟩ := B.at_ b u e
      rw [n] at z
      cases z
  have nsD : ∀ {b : Addr} {m : Str → Option Value}, s.heap.Ns b m → (hidT s.heap H).Ns b m := fun {b m} z => by
    obtain ⟨o, es, ep, e1, e2, r⟩ := z
    refine ⟨o, es, ep, hidT_get e1 ?_, e2, r⟩
    cases e : H b with
    | none => rfl
    | some u =>
      obtain ⟨rfl, _⟩ := B.at_ b u e
      have eo := Option.some.inj (e1.symm.trans ha)
      rw [eo] at e2
      exact nomatch e2
  have inK : K.In (hidT s.heap H) := fun b o z => hidT_get (KX b o z) (bare b o z)
  have md : Mod K mg (hidT s.heap H) := by
    refine ⟨inK, nsD hns, ⟨mb, nsD hb, hbb⟩, ?_⟩
    obtain ⟨m, y1, y2⟩ := lim
    exact ⟨m, nsD y1, y2⟩
  have env : Env0 P w K mg (hidT s.heap H) callerA [] s H :=
    { frames := rfl, mod := md, bs := fun b o z => of_hidT z, bsz := Nat.le_of_eq (hidT_size _ _), funs := trivial, frf := fun b (z : b ∈ ([] : List Addr)) => (nomatch z), hok := B.ok, bare := .of_eq hg }
  refine codeAny_mono ((F _ inK (nsD hns)).does callerA [] s H _ [.ref a] [.ref a] _ rfl hr env (bnd s (.ref a)) (.cons rfl .nil) (hsp H B.only B.seq)) ?_
  intro r s' z
  cases r with
  | error e => exact z.elim
  | ok fl =>
    cases fl with
    | next => exact z.elim
    | brk => exact z.elim
    | cont => exact z.elim
    | ret u =>
      obtain ⟨v, H', os, bg, un, ok', rv, q⟩ := z
      have q : v = .bl true := q
      subst q
      obtain rfl : u = Value.bool true := rv
      refine ⟨rfl, OldK.of_keep fun b o e => ?_, os, bg⟩
      rcases B.only b with n | ⟨ob, xs, n⟩
      · exact un.keep b o e n (fun (y : b ∈ ([] : List Addr)) => (nomatch y)) (fun (y : b ∈ ([] : List Addr)) => (nomatch y))
      · have e1 := (B.ok b _ n).1
        have e2 := (ok' b _ (un.frzs b ob _ n)).1
        rw [e2, ← e1, e]
theorem walkG {l : PySem.W.OpenLaw} {n : Nat} {q : Program} {loose : List Str} {XP : (Str → Option Value) → Heap → Prop} {YP : World → Heap → Prop} {d : DefRec} {K : Params → PySem.W.Frag} {sp : PySem.W.Frag → Sp}
    (hn : l.most = some n) (hn2 : n ≤ sizeLine) (hdf : d.params.defaults = []) (hr : Room k callerA) (hY : ∀ (w : World) (h : Heap), YP w h → (K w.params).In h)
    (F : ∀ (w : World) (mg : Str → Option Value) (fa : Addr) (h : Heap), (K w.params).In h → h.Ns mainGlobals mg → mg d.name = some (.ref fa) →
      ∃ fd : FuncData, (∀ (s : Shared) (u : Value), BindsTo s fd ⟨[u], []⟩ [(x, u)]) ∧ ∀ base : Heap, (K w.params).In base → base.Ns mainGlobals mg → FnG l.prog w (K w.params) mg base k fa fd [x] (sp (K w.params)))
    (hsp : ∀ (K : PySem.W.Frag) (H : Hp) (a : Addr) (ns : List Int), ns.length ≤ n → Only H → SqL K H a (ns.map V.int) → sp K [.ref a] H (fun v _ => v = .bl true) E0) :
    PySem.W.WalkO q loose XP YP l.row.toRowW d [] (fun f vs => PySem.call f vs) := by
  refine Att.attach_call hn hdf ?_
  intro w s₀ s₁ mg mb fa o pm cd doc a vs ns G Y ho hd hcd hmg hobj hints hlen hg
  obtain ⟨fd, hb, hF⟩ := F w mg fa _ (hY w _ Y) G.T.g hmg
  exact lawG (hY w _ Y) G.T.g G.T.b G.T.builtins G.T.nolimit hg hobj hints (Nat.le_trans hlen hn2) hr hF hb fun H h1 h2 => hsp _ H a ns hlen h1 h2
end
end GL
set_option maxRecDepth 100000
set_option maxHeartbeats 4000000
/-! errors as values: made, read, asked for their class -/
namespace GL
open PySem PySem.Spec PyProof.Rows L2
/-- an error of the class at C that stands at a -/
def Er (H : Hp) (a C : Addr) : Prop := ∃ d : Option Addr, H a = some (exo a C d) ∧ ∀ dd, d = some dd → ∃ fs, H dd = some (exd dd fs)
theorem Er.up {H H' : Hp} {a C : Addr} (h : Er H a C) (e : Same H H') : Er H' a C := by
  obtain ⟨d, h1, h2⟩ := h
  exact ⟨d, e _ _ h1, fun dd z => by
    obtain ⟨fs, q⟩ := h2 dd z
    exact ⟨fs, e _ _ q⟩⟩
section
variable {X : Cx} {k : Nat} {f C : Addr} {fd : FuncData} {ps : List Str} {sp : Sp} {x : Str} {p pos : Pos} {e : Expr} {es : List Expr} {t : TA}
/-- C(..), C an error class with an own __init__, as a value -/
def tMkV (C : Addr) (sp : Sp) (t : TA) : TE := fun σ H Q => t σ H fun vs H1 => vs.length ≤ 1000 ∧ ∀ a, H1 a = none → sp (.ref a :: vs) (upd H1 a (exo a C none)) (fun v H2 => v = .non ∧ Q (.ref a) H2) E0
theorem make_exc {pins : List (Addr × Obj)} {σ : L2.St} {H1 : Hp} {s1 : Shared} {Q : VK} {us : List Value} {vs : List V} (T : OexC X.K C) (iC : PySem.W.findIn X.K (.ref C) "__init__" = some (some (.ref f))) (tI : PySem.W.typeIn X.K (.ref f) = some (.type "function"))
    (F : FnOk X.prog X.w X.K X.mg X.base CX0 k f fd ps sp) (hr : Room (k + 1) X.A) (hb : Binds X.K fd ps []) (I1 : Inv X pins σ H1 s1) (r1 : Vals vs us) (hz : vs.length ≤ 1000)
    (q1 : ∀ a, H1 a = none → sp (.ref a :: vs) (upd H1 a (exo a C none)) (fun v H2 => v = .non ∧ Q (.ref a) H2) E0) :
    wpAny (model X.prog X.w) X.A (call (.ref C) us) (EP X pins σ Q) X.xe s1 := by
  obtain ⟨nm, q, N, bs, bm, sn, sub, ab, col, dd, k0, k1, k2, k3, k5, hC, hbm⟩ := T.cls
  obtain ⟨hp, g, dr, tk, os⟩ := s1
  have hsz : hp.objs.size ≤ hp.objs.size + 1 := Nat.le_succ _
  have hn : H1 (hp.objs.size + 1) = none := I1.hok.fresh hsz
  have hq := q1 (hp.objs.size + 1) hn
  have kk : ∀ b o, hp.get? b = some o → ((hp.push (PySem.W.kdv_tup us)).push (PySem.HandSPX.excO C hp.objs.size)).get? b = some o := fun b o e => Heap.get?_push_of_some _ (Heap.get?_push_of_some _ e)
  have hget : ((hp.push (PySem.W.kdv_tup us)).push (PySem.HandSPX.excO C hp.objs.size)).get? (hp.objs.size + 1) = some (PySem.HandSPX.excO C hp.objs.size) := by heap_get
  have I2 : Inv X pins σ (upd H1 (hp.objs.size + 1) (exo (hp.objs.size + 1) C none)) ⟨(hp.push (PySem.W.kdv_tup us)).push (PySem.HandSPX.excO C hp.objs.size), g, dr, tk, os⟩ :=
    I1.laid (t' := tk) (a := hp.objs.size + 1) (o := exo (hp.objs.size + 1) C none) (h' := (hp.push (PySem.W.kdv_tup us)).push (PySem.HandSPX.excO C hp.objs.size)) kk hsz (exo_ok hget)
  have r2 : Vals (V.ref (hp.objs.size + 1) :: vs) (Value.ref (hp.objs.size + 1) :: us) := .cons rfl r1
  have hl : (Value.ref (hp.objs.size + 1) :: us).length = ps.length := by
    have e := r2.length
    rw [F.len _ _ _ _ hq] at e
    exact e.symm
  have hus : us.length ≤ sizeLine := by
    rw [← Paired.length r1, sizeLine_eq]
    omega
  have bb := hb _ (Value.ref (hp.objs.size + 1) :: us) I2.kIn (by rw [List.append_nil]; exact hl)
  rw [List.append_nil] at bb
  refine wpAny_call (PySem.HandSPX.call_own PySem.F.excBase_ValueError (fun Y => PySem.HandSPX.refsVE_contains Y bm hbm) (I1.kIn _ _ hC) (PySem.W.looks_findIn I1.kIn iC) (fun self => PySem.W.bind_fn I1.kIn self tI) hus
    (codeAny_mono (F.run _ X.stack _ _ ⟨Value.ref (hp.objs.size + 1) :: us, []⟩ (Value.ref (hp.objs.size + 1) :: us) _ _ E0 (hr.make C us []) (I2.env0.make C us []) bb r2 hq) fun r s' hq' => ?_))
  cases r with
  | error er => exact hq'.elim
  | ok fl =>
    cases fl with
    | ret u =>
      obtain ⟨v, H2, J, rv, ev, q2⟩ := I2.after hq'
      subst ev
      exact ⟨rv, .ref _, H2, J, rfl, q2⟩
    | next => exact hq'.elim
    | brk => exact hq'.elim
    | cont => exact hq'.elim
theorem pe_mkV (T : OexC X.K C) (iC : PySem.W.findIn X.K (.ref C) "__init__" = some (some (.ref f))) (tI : PySem.W.typeIn X.K (.ref f) = some (.type "function"))
    (F : FnOk X.prog X.w X.K X.mg X.base CX0 k f fd ps sp) (hr : Room (k + 1) X.A) (hb : Binds X.K fd ps []) (hg : Gl X x) (hm : X.mg x = some (.ref C)) (ha : PA X (e :: es) t)
    (hdb : (x == ("__debug__" : Str)) = false := by decide) (he : starEach (e :: es) X.env = (false, eval e X.env) :: starEach es X.env := by rfl) (hpl : (backTo pos (starEach es X.env)).any (·.1) = false := by rfl) :
    PE X (.Call (.Name x p) (e :: es) [] pos) (tMkV C sp t) := by
  refine ⟨fun pins s σ H Q I h => ?_⟩
  refine wpAny_Call_Name_kw (ld_glob I hg hm ?_ hdb)
  refine PySem.W.callWith_K (h₀ := X.base) I.ok.mod.kin T.kC (thn (ha.run pos pins s σ H _ I h) fun us s1 ⟨vs, H1, I1, r1, hz, q1⟩ => ⟨I1.kIn, ?_⟩) he hpl
  exact make_exc T iC tI F hr hb I1 r1 hz q1
theorem pe_mkV0 (T : OexC X.K C) (iC : PySem.W.findIn X.K (.ref C) "__init__" = some (some (.ref f))) (tI : PySem.W.typeIn X.K (.ref f) = some (.type "function"))
    (F : FnOk X.prog X.w X.K X.mg X.base CX0 k f fd ps sp) (hr : Room (k + 1) X.A) (hb : Binds X.K fd ps []) (hg : Gl X x) (hm : X.mg x = some (.ref C))
    (hdb : (x == ("__debug__" : Str)) = false := by decide) : PE X (.Call (.Name x p) [] [] pos) (tMkV C sp tNil) := by
  refine ⟨fun pins s σ H Q I h => ?_⟩
  refine wpAny_Call_Name_kw (ld_glob I hg hm ?_ hdb)
  obtain ⟨hz, q1⟩ := h
  exact PySem.W.callWith_K0 I.kIn T.kC (make_exc T iC tI F hr hb I .nil hz q1)
/-- e.f, e an error at hand -/
def tXv (C : Addr) (n : Str) (te : TE) : TE := fun σ H Q => te σ H fun x H1 => ∃ (a dd : Addr) (fs : List (Str × V)) (v : V), x = .ref a ∧ H1 a = some (exo a C (some dd)) ∧ H1 dd = some (exd dd fs) ∧ fs.lookup n = some v ∧ Q v H1
theorem pe_xv {te : TE} {n : Str} (T : XfC X.K C) (hno : PySem.W.findIn X.K (.ref C) n = some none) (he : PE X e te) (hb : attributeBase e n X.env (eval e X.env) = eval e X.env := by rfl) : PE X (.Attribute e n pos) (tXv C n te) := by
  refine ⟨fun pins s σ H Q I h => ?_⟩
  refine attr_of hb (thn (he.run pins s σ H _ I h) fun u s1 hh => ?_)
  obtain ⟨x, H1, I1, rx, a, dd, fs, v, ex, ha, hd, l, q⟩ := hh
  subst ex
  obtain rfl : u = Value.ref a := rx
  obtain ⟨t1, ho⟩ := exo_at I1.hok ha
  obtain ⟨mA, hns, hr⟩ := exd_at I1.hok hd
  obtain ⟨od, hod, hl⟩ := lookIn_ns hns
  obtain ⟨u, hu, ru⟩ := RelO.some_of (v := v) (o := mA n) (by rw [← l]; exact hr n)
  have J : PySem.W.InstAt s1.heap a _ C (some od) := ⟨ho, rfl, rfl, hod⟩
  exact PySem.HandSPX.exc_get I1.kIn J T.ga T.gg T.exC (PySem.W.findObj_own T.hdC hno rfl (by rw [hl, hu])) (handed_of ru) ⟨v, H1, I1.tok _, ru, q⟩
/-- isinstance(e, c), e an error at hand -/
def rIsV (K : PySem.W.Frag) : List V → Hp → VK → Prop := fun xs H Q => ∃ (a D : Addr) (c : V) (cv : Value) (b : Bool), xs = [.ref a, c] ∧ Er H a D ∧ ExcC K D ∧ ClsV c cv ∧ PySem.W.kitOne K (.ref D) cv = some b ∧ Q (.bl b) H
theorem call_isV : CallR X (.builtin "isinstance") (rIsV X.K) := by
  intro pins s σ H xs us Q I r h
  obtain ⟨a, D, c, cv, b, rfl, ⟨d, ha, hd⟩, T, kc, ek, q⟩ := h
  obtain ⟨u1, u2, rfl, r1, r2⟩ := vals2 r
  obtain rfl : u1 = Value.ref a := r1
  obtain rfl := kc.eq r2
  obtain ⟨t1, ho⟩ := exo_at I.hok ha
  have cls0 : (PySem.W.clsIn X.K D).isSome = true := by
    obtain ⟨cd, z, _⟩ := PySem.W.any_some T.hd
    rw [z]
    rfl
  cases d with
  | none =>
    have J : PySem.W.InstAt s.heap a _ D none := ⟨ho, rfl, rfl, True.intro⟩
    exact PySem.W.kia_one (PySem.W.kitx_exc cls0 T.hg T.hk T.hs T.ha T.hn T.ht T.hm) I.kIn J ek (fun z => nomatch z) fun tk => ⟨.bl b, H, I.tok tk, rfl, q⟩
  | some dd =>
    obtain ⟨fs, hdd⟩ := hd dd rfl
    obtain ⟨mA, hns, hr⟩ := exd_at I.hok hdd
    obtain ⟨od, hod, hl⟩ := lookIn_ns hns
    have J : PySem.W.InstAt s.heap a _ D (some od) := ⟨ho, rfl, rfl, hod⟩
    exact PySem.W.kia_one (PySem.W.kitx_exc cls0 T.hg T.hk T.hs T.ha T.hn T.ht T.hm) I.kIn J ek (fun z => nomatch z) fun tk => ⟨.bl b, H, I.tok tk, rfl, q⟩
/-- what repr tells, here: data, or an empty dict -/
def ReprOf (K : PySem.W.Frag) (H : Hp) (v : V) (t : Str) : Prop :=
  (v = .non ∧ t = "None") ∨ (∃ b : Bool, v = .bl b ∧ t = if b then "True" else "False") ∨ (∃ i : Int, v = .int i ∧ i.natAbs.log2 < 1920 ∧ t = toString i) ∨ (∃ y : Str, v = .str y ∧ t = reprText y ∧ (reprText y).length ≤ sizeLine) ∨
  (∃ (a : Addr) (d : PyData), v = .ref a ∧ Dp K H v d ∧ d.showable = true ∧ d.hasDict = false ∧ d.depth ≤ 60 ∧ d.shown.length ≤ sizeLine ∧ t = d.shown) ∨
  (∃ a : Addr, v = .ref a ∧ H a = some (.dK []) ∧ t = (PyData.dict []).shown)
theorem call_reprV (hg : X.A.guards = some []) (hu : X.A.units + 64 < cLine) : CallR X (.builtin "repr") (fun xs H Q => ∃ (v : V) (t : Str), xs = [v] ∧ ReprOf X.K H v t ∧ Q (.str t) H) := by
  intro pins s σ H xs us Q I r h
  obtain ⟨v, t, rfl, hv, q⟩ := h
  obtain ⟨u, rfl, ru⟩ := vals1 r
  rcases hv with ⟨rfl, rfl⟩ | ⟨b, rfl, rfl⟩ | ⟨i, rfl, hi, rfl⟩ | ⟨y, rfl, rfl, hy⟩ | ⟨a, d, rfl, hd, hs, hn, hdep, hz, rfl⟩ | ⟨a, rfl, ha, rfl⟩
  · cases ru
    exact PySem.P.repr_of_none ⟨.str _, H, I.tok _, ⟨_, rfl⟩, q⟩
  · cases ru
    refine PySem.P.repr_of_bool ⟨.str _, H, I.tok _, ?_, q⟩
    cases b <;> exact ⟨_, rfl⟩
  · obtain ⟨t, rfl⟩ := ru
    exact PySem.P.repr_of_int hi ⟨.str _, H, I.tok _, ⟨_, rfl⟩, q⟩
  · obtain ⟨t, rfl⟩ := ru
    exact PySem.P.repr_of_str ⟨.str _, H, I.tok _, ⟨_, rfl⟩, q⟩ hy
  · obtain ⟨as, rd⟩ := Dp.reads I d _ _ hd ru
    obtain rfl : u = Value.ref a := ru
    exact repr_of_reads' rd hs (PyData.noDict_hsm hn) hg (by omega) (fun _ _ z => z) (fun h1 u1 tk1 k => ⟨V.str d.shown, H, I.kept k, ⟨u1, rfl⟩, q⟩) hz
  · obtain rfl : u = Value.ref a := ru
    obtain ⟨_, hsys, vs, kv, o, es, ep, ho, hex, hdat, _, hes, _⟩ := (show ObjOk X.prog X.w H s.heap a (.dK []) from I.hok a _ ha)
    cases kv
    have rd : Reads s.heap (.ref a) (.dict []) (a :: [] ++ []) := by
      have e0 : es.toList = [] := by
        generalize es.toList = l at hes
        cases hes
        rfl
      refine Reads.dict ho hex.1 hdat ?_ ?_
      · rw [e0]
        exact ReadsAll.nil
      · rw [e0]
        exact ReadsAll.nil
    have hns : (PyData.dict []).hasDict = true → sysModules ∉ (a :: [] ++ [] : List Addr) := fun _ hm => by
      have e : sysModules = a := by simpa using hm
      rw [e, beq_self_eq_true] at hsys
      cases hsys
    have dep : X.A.units + (PyData.depth (.dict []) + 1) < cLine := by
      have e : PyData.depth (.dict []) = 1 := by rfl
      rw [e]
      omega
    refine repr_of_reads' rd (by rfl) hns hg dep (fun _ _ z => z) (fun h1 u1 tk1 k => ⟨V.str _, H, I.kept k, ⟨u1, rfl⟩, q⟩) (by decide +kernel)
/-- list.count(True) of a list of flags -/
def rCntB (K : PySem.W.Frag) : V → List V → Hp → VK → Prop := fun x xs H Q => ∃ (p : Addr) (bs : List Bool), x = .ref p ∧ xs = [.bl true] ∧ SqL K H p (bs.map V.bl) ∧ Q (.int (bs.count true : Nat)) H
theorem flats (bs : List Bool) : (bs.map V.bl).all flatV = true := by
  rw [List.all_eq_true]
  intro v hv
  obtain ⟨b, _, rfl⟩ := List.mem_map.mp hv
  rfl
theorem count_eqU : ∀ {bs : List Bool} {us : List Value}, Vals (bs.map V.bl) us → us.countP (eqU (.bl true)) = bs.count true
  | [], _, .nil => rfl
  | b :: bs, _, .cons r t => by
    cases r
    have ih := count_eqU t
    rw [List.countP_cons, List.count_cons, ih]
    cases b <;> rfl
theorem mt_countB : MtR X "list.count" (rCntB X.K) := by
  intro pins s σ H x xs v us Q I rx rxs h
  obtain ⟨p, bs, rfl, rfl, hs, q⟩ := h
  cases rx
  obtain ⟨u, rfl, ru⟩ := rxs.one
  cases ru
  obtain ⟨its, rv, ⟨⟨cls, dd, data, sl⟩, n, ho, hc, hdn, hd⟩, hlen⟩ := I.list hs
  simp only at hc hd
  subst hc hd
  refine call_meets PySem.F.slot_list_count ⟨_, ho, rfl⟩ PySem.F.entry_list_count (PySem.F.args_list_count_2 _ _)
    (SeqAt.list_countAt p its.toArray n dd sl (.bool true) (eqU (.bl true))) ⟨ho, fun y hy => mem_eqAt (x := .bl true) rfl rfl rv (flats bs) y (by simpa using hy), ?_⟩
  have ec : its.toArray.toList.countP (eqU (.bl true)) = bs.count true := count_eqU rv
  refine ⟨.int (bs.count true : Nat), H, I.tok _, ⟨s.toks, ?_⟩, q⟩
  show Value.int ((its.toArray.toList.countP (eqU (.bl true)) : Nat) : Int) s.toks = Value.int ((bs.count true : Nat) : Int) s.toks
  rw [ec]
end
end GL
set_option maxRecDepth 100000
set_option maxHeartbeats 4000000
namespace My
open PySem PySem.Spec PyProof.Rows L2 GL
def topS (i : Nat) : Stmt := PySem.Challenge.pw_fourstrokes_k00_errors_of_the_package.main.body.getD i (.Pass ⟨0, 0, 0, 0⟩)
abbrev sPool : Stmt := topS 42
abbrev sDraw : Stmt := topS 43
abbrev sDeep : Stmt := topS 44
/-! ### the pool: a list of two ints and of a list of ints -/
structure PoolAt (H : Hp) (p c : Addr) : Prop where
  ex : ∃ (s t : Int) (ns : List Int), H p = some (.lst [.int s, .int t, .ref c]) ∧ H c = some (.lst (ns.map V.int)) ∧ ns.length ≤ 63
theorem PoolAt.ne {H : Hp} {p c : Addr} (h : PoolAt H p c) : p ≠ c := by
  obtain ⟨s, t, ns, h1, h2, _⟩ := h.ex
  rintro rfl
  rw [h1] at h2
  cases ns with
  | nil => cases h2
  | cons a r =>
    cases r with
    | nil => cases h2
    | cons b r =>
      cases r with
      | nil => cases h2
      | cons c r => cases h2
def hid (H : Hp) (p c : Addr) : Hp := fun b => if b = p ∨ b = c then none else H b
theorem hid_at {H : Hp} {p c b : Addr} {o : HO} : hid H p c b = some o ↔ (b ≠ p ∧ b ≠ c) ∧ H b = some o := by
  unfold hid
  by_cases h : b = p ∨ b = c
  · rw [if_pos h]
    constructor
    · intro z; cases z
    · rintro ⟨⟨h1, h2⟩, _⟩; exact (h.elim h1 h2).elim
  · rw [if_neg h]
    exact ⟨fun z => ⟨⟨fun e => h (.inl e), fun e => h (.inr e)⟩, z⟩, fun z => z.2⟩
theorem hid_le {H : Hp} {p c : Addr} : Same (hid H p c) H := fun b o z => (hid_at.mp z).2
theorem hid_mono {H H' : Hp} {p c : Addr} (e : Same H H') : Same (hid H p c) (hid H' p c) := fun b o z => hid_at.mpr ⟨(hid_at.mp z).1, e _ _ (hid_at.mp z).2⟩
theorem hid_upd {H : Hp} {p c x : Addr} {o : HO} (h : x = p ∨ x = c) : Same (hid H p c) (hid (upd H x o) p c) := fun b u z => by
  obtain ⟨⟨n1, n2⟩, e⟩ := hid_at.mp z
  refine hid_at.mpr ⟨⟨n1, n2⟩, ?_⟩
  rw [upd_ne (fun q => by subst q; exact (h.elim n1 n2))]
  exact e
theorem same_new {H : Hp} {x : Addr} {o : HO} (h : H x = none) : Same H (upd H x o) := fun b u z => by
  rw [upd_ne (ne_of_none z h)]
  exact z
theorem PoolAt.same {H H' : Hp} {p c : Addr} (h : PoolAt H p c) (e : Same H H') : PoolAt H' p c := by
  obtain ⟨s, t, ns, h1, h2, h3⟩ := h.ex
  exact ⟨s, t, ns, e _ _ h1, e _ _ h2, h3⟩
theorem cutV_int (ns : List Int) (lo hi : Option Int) : ∃ ms : List Int, cutV (ns.map V.int) lo hi = ms.map V.int ∧ ms.length ≤ ns.length := by
  unfold cutV
  rw [List.length_map, ← List.map_drop, ← List.map_take]
  exact ⟨_, rfl, by rw [List.length_take, List.length_drop]; omega⟩
theorem item_int {ns : List Int} {i : Nat} {y : V} (h : (ns.map V.int)[i]? = some y) : ∃ z, ns[i]? = some z ∧ y = .int z := by
  rw [List.getElem?_map] at h
  cases e : ns[i]? with
  | none => rw [e] at h; cases h
  | some z => rw [e] at h; exact ⟨z, rfl, (Option.some.inj h).symm⟩
structure Nm (mg : Str → Option Value) : Prop where
  int : mg "int" = none
  sum : mg "sum" = none
  len : mg "len" = none
  abs : mg "abs" = none
  range : mg "range" = none
  isinstance : mg "isinstance" = none
  repr : mg "repr" = none
  set : mg "set" = none
  valueError : mg "ValueError" = none
def spPool (K : PySem.W.Frag) : Sp := fun vs H Q _ => ∃ (a : Addr) (ns : List Int), vs = [.ref a] ∧ SqL K H a (ns.map V.int) ∧ ns.length ≤ 63 ∧
  ∀ (p c : Addr) (H' : Hp), Same H H' → H p = none → H c = none → PoolAt H' p c → Q (.ref p) H'
section
variable {P : Program} {w : World} {K : PySem.W.Frag} {mg : Str → Option Value} {base : Heap}
theorem scPool : FnScope ["script", "seed", "cell"] ["script"] (defScope sPool) := ⟨rfl, rfl, rfl, by decide +kernel, rfl, by decide +kernel, by decide +kernel⟩
theorem ok_pool {f : Addr} {fd : FuncData} (F : Fun K "_law_pool" "_law_pool" sPool f fd) (T : Nm mg) : FnOk P w K mg base CX0 1 f fd ["script"] (spPool K) := by
  refine F.ok scPool (fun vs H Q E h => ?_) (fun cdv A outer s H vs Q E hr h => ?_)
  · obtain ⟨a, ns, rfl, _⟩ := h
    rfl
  · obtain ⟨a, ns, rfl, hS, hl, k⟩ := h
    have hu := hu_of hr
    refine ⟨_, pss_cons (ps_set (i := 1) scPool.nd rfl (.inl rfl) (pe_op op_add (pe_op op_add (pe_op op_mod (pe_callTy call_int1 (by rfl) T.int (by decide +kernel) (pa_cons (pe_callB (cr_sum rfl) (by rfl) T.sum (by decide +kernel) (pa_cons (pe_slice sl_list (pv 0) po_none (po_some pe_int)) pa_nil)) pa_nil)) pe_int)
          (pe_callB call_len_seq (by rfl) T.len PySem.boot_len (pa_cons (pv 0) pa_nil))) pe_int))
      (pss_cons (ps_for PassesOwn.never rfl (pi_list (pe_slice sl_list (pv 0) po_none (po_some pe_int))) (pg_name (i := 2) scPool.nd rfl (.inl rfl))
        (pss_one (ps_set (i := 1) scPool.nd rfl (.inl rfl) (pe_op op_mod (pe_callTy call_int1 (by rfl) T.int (by decide +kernel) (pa_cons (pe_op op_add (pe_op op_add (pe_op op_mul (pv 1) pe_int)
          (pe_op op_mod (pe_callTy call_int1 (by rfl) T.int (by decide +kernel) (pa_cons (pv 2) pa_nil)) pe_int)) pe_int) pa_nil)) pe_int))))
      (pss_one (ps_ret (pe_lst (pa_cons (pv 1) (pa_cons pe_int (pa_cons
        (pe_lc (own := [("cell", 2)]) (g := gName 2) (by rfl) scPool.nd (pi_list (pe_slice sl_list (pv 0) po_none (po_some pe_int))) (blkOk_by (N := ["script", "seed", "cell"]) (sc := defScope sPool) (by decide +kernel))
          (fun _ _ _ _ _ => pg_name (i := 2) scPool.nd rfl (Or.inl rfl))
          (fun _ _ _ _ _ => pts_one (pt_cmpR op_ge (pe_callB call_abs (by rfl) T.abs (by decide +kernel) (pa_cons (pv 2) pa_nil)) (pe_op op_pow pe_int pe_int) (nomark _)))
          (fun _ _ _ _ _ => pe_callB call_abs (by rfl) T.abs (by decide +kernel) (pa_cons (pv 2) pa_nil))) pa_nil))))))), ?_⟩
    obtain ⟨m1, e1, _⟩ := cutV_int ns none (some 1)
    refine ⟨_, rfl, _, rfl, a, _, rfl, hS, fun q1 n1 => ?_⟩
    have s1 : Same H (upd H q1 (.lst (cutV (ns.map V.int) none (some 1)))) := same_new n1
    refine ⟨q1, m1, rfl, SqL.of (by rw [upd_same, e1]), .inl ⟨_, rfl, _, _, rfl, rfl, (by show (0 : Int) < 1000003; decide), _, rfl, a, _, rfl, .inl (s1.seq hS), _, _, rfl, rfl, _, _, rfl, rfl, ?_⟩⟩
    obtain ⟨m2, e2, l2⟩ := cutV_int ns none (some 63)
    refine ⟨_, rfl, _, rfl, a, _, rfl, s1.seq hS, fun q2 n2 => ?_⟩
    have s2 : Same H (upd (upd H q1 (.lst (cutV (ns.map V.int) none (some 1)))) q2 (.lst (cutV (ns.map V.int) none (some 63)))) := s1.trans (same_new n2)
    refine ⟨q2, rfl, ⟨_, SqL.of (by rw [upd_same, e2])⟩, for_list (K := K) (a := q2) (xs := m2.map V.int) (fun i σ H' => ∃ (z : Int) (v : Option V), σ = [some (.ref a), some (.int z), v] ∧ Same H H' ∧ H' q2 = some (.lst (m2.map V.int)))
      ⟨_, _, rfl, s2, by rw [upd_same, e2]⟩ (fun i σ H' _ ⟨_, _, _, _, z⟩ => SqL.of z) ?_ ?_⟩
    · rintro i y σ H' hi ⟨z, v, rfl, s3, hq⟩
      obtain ⟨u, _, rfl⟩ := item_int hi
      refine ⟨_, rfl, _, _, rfl, rfl, .inr (by constructor <;> decide), _, rfl, .inl ⟨_, rfl, _, _, rfl, rfl, (by show (0 : Int) < 2147483629; decide), _, _, rfl, rfl, _, _, rfl, rfl, .inl ⟨_, rfl, _, _, rfl, rfl, (by show (0 : Int) < 2147483647; decide), ?_⟩⟩⟩
      exact ⟨_, _, rfl, s3, hq⟩
    · rintro σ H' ⟨z, v, rfl, s3, hq⟩
      obtain ⟨m3, e3, l3⟩ := cutV_int ns none (some 63)
      refine ⟨_, rfl, _, rfl, _, rfl, a, _, rfl, s3.seq hS, fun q3 n3 => ?_⟩
      have s4 : Same H (upd H' q3 (.lst (cutV (ns.map V.int) none (some 63)))) := s3.trans (same_new n3)
      refine ⟨q3, rfl, ⟨_, SqL.of (by rw [upd_same, e3])⟩, fun D nD => ?_⟩
      have h0 : H D = none := s4.free nD
      have d3 : q3 ≠ D := fun z => by
        rw [← z, upd_same] at nD
        cases nD
      refine lc_list (K := K) (a := q3) (xs := m3.map V.int) (fun i H2 => Same H H2 ∧ H2 q3 = some (.lst (m3.map V.int)) ∧ ∃ acc : List Int, H2 D = some (.lst (acc.map V.int)) ∧ acc.length ≤ i)
        ⟨s4.trans (same_new nD), by rw [upd_ne d3, upd_same, e3], [], upd_same, Nat.le_refl _⟩ (fun i H2 _ z => SqL.of z.2.1) ?_ ?_
      · rintro i y H2 hi ⟨t1, t2, acc, t3, t4⟩
        obtain ⟨u, hu, rfl⟩ := item_int hi
        have li : i < 63 := by
          have z := (List.getElem?_eq_some_iff.mp hu).1
          omega
        refine ⟨rfl, _, rfl, _, rfl, _, _, rfl, rfl, ⟨by decide, by decide, by decide⟩, _, _, rfl, rfl, _, rfl, ?_⟩
        refine ite2 (fun _ => ?_) (fun _ => ?_)
        · refine ⟨_, rfl, _, rfl, _, t3, small1000 (by rw [List.length_map]; omega), ?_⟩
          refine ⟨fun b o e => ?_, by rw [upd_ne d3]; exact t2, acc ++ [_], by rw [upd_same, List.map_append]; rfl, by rw [List.length_append, List.length_singleton]; omega⟩
          rw [upd_ne (ne_of_none e h0)]
          exact t1 b o e
        · exact ⟨t1, t2, acc, t3, Nat.le_succ_of_le t4⟩
      · rintro H2 ⟨t1, t2, acc, t3, t4⟩
        rw [List.length_map] at t4
        refine ⟨by show 3 ≤ sizeLine; decide, fun p np => ?_⟩
        have dp : D ≠ p := ne_of_none t3 np
        refine k p D _ (t1.trans (same_new np)) (t1.free np) h0 ⟨_, 0, acc, upd_same, by rw [upd_ne dp]; exact t3, by omega⟩
end
end My
namespace My
open PySem PySem.Spec PyProof.Rows L2 GL
theorem yes_of {b : Bool} {A B : Prop} (h : b = true) (a : A) : if b = true then A else B := by rw [if_pos h]; exact a
theorem no_of {b : Bool} {A B : Prop} (h : b = false) (a : B) : if b = true then A else B := by rw [h, if_neg Bool.false_ne_true]; exact a
theorem at0 (n : Int) (r : List Int) : atI ((n :: r).map V.int) 0 = some (.int n) := atI_nat (j := 0) rfl
theorem ix0 (n : Int) (r : List Int) : ixN ((n :: r).map V.int).length 0 = some 0 := by
  have z : (0 : Int) < (((n :: r).map V.int).length : Nat) := by rw [List.length_map, List.length_cons]; omega
  unfold ixN
  rw [if_pos (Int.le_refl 0), if_pos z]
  rfl
/-- a draw below m: the pool turns, nothing else does -/
def spDraw : Sp := fun vs H Q _ => ∃ (p c : Addr) (m : Int), vs = [.ref p, .int m] ∧ PoolAt H p c ∧ 0 < m ∧ m < 1073741824 ∧
  ∀ (d : Int) (H' : Hp), 0 ≤ d → d < m → PoolAt H' p c → Same (hid H p c) (hid H' p c) → Q (.int d) H'
section
variable {P : Program} {w : World} {K : PySem.W.Frag} {mg : Str → Option Value} {base : Heap}
theorem scDraw : FnScope ["pool", "many", "cells", "digit", "mixed"] ["pool", "many"] (defScope sDraw) := ⟨rfl, rfl, rfl, by decide +kernel, rfl, by decide +kernel, by decide +kernel⟩
theorem ok_draw {f : Addr} {fd : FuncData} (F : Fun K "_law_draw" "_law_draw" sDraw f fd) (T : Nm mg) : FnOk P w K mg base CX0 1 f fd ["pool", "many"] spDraw := by
  refine F.ok scDraw (fun vs H Q E h => ?_) (fun cdv A outer s H vs Q E hr h => ?_)
  · obtain ⟨p, c, m, rfl, _⟩ := h
    rfl
  · obtain ⟨p, c, m, rfl, hp, m0, m1, k⟩ := h
    have npc := hp.ne
    obtain ⟨z, t, ns, h1, h2, h3⟩ := hp.ex
    refine ⟨_, pss_cons (ps_asg (pe_op op_add (pe_ix ix_list (pv 0) pe_int (fun _ _ => rfl)) pe_int) (pg_sub (pv 0) pe_int set_list))
      (pss_cons (ps_set (i := 2) scDraw.nd rfl (.inl rfl) (pe_ix ix_list (pv 0) pe_int (fun _ _ => rfl)))
      (pss_cons (ps_if (pt_cmpR op_gt (pe_callB call_len_seq (by rfl) T.len PySem.boot_len (pa_cons (pv 2) pa_nil)) pe_int (nomark _))
        (pss_cons (ps_set (i := 3) scDraw.nd rfl (.inl rfl) (pe_op op_mod (pe_callTy call_int1 (by rfl) T.int (by decide +kernel) (pa_cons (pe_ix ix_list (pv 2) pe_int (fun _ _ => rfl)) pa_nil)) (pv 1)))
        (pss_cons (ps_asg (pe_op op_fdivN (pe_callTy call_int1 (by rfl) T.int (by decide +kernel) (pa_cons (pe_ix ix_list (pv 2) pe_int (fun _ _ => rfl)) pa_nil)) (pv 1)) (pg_sub (pv 2) pe_int set_list))
        (pss_cons (ps_if (pt_cmpR op_eq (pe_ix ix_list (pv 2) pe_int (fun _ _ => rfl)) pe_int (nomark _))
          (pss_one (ps_expr (pe_bm PySem.F.plainAttrs_list PySem.F.slot_list_pop PySem.F.type_list_pop mt_popAt (pv 2) (pa_cons pe_int pa_nil)))) pss_nil)
        (pss_one (ps_ret (pv 3)))))) pss_nil)
      (pss_cons (ps_set (i := 4) scDraw.nd rfl (.inl rfl) (pe_op op_mod (pe_callTy call_int1 (by rfl) T.int (by decide +kernel) (pa_cons (pe_op op_mul (pe_op op_add (pe_ix ix_list (pv 0) pe_int (fun _ _ => rfl)) (pe_op op_mul pe_int (pe_ix ix_list (pv 0) pe_int (fun _ _ => rfl)))) pe_int) pa_nil)) pe_int))
      (pss_cons (ps_set (i := 4) scDraw.nd rfl (.inl rfl) (pe_op op_mod (pe_callTy call_int1 (by rfl) T.int (by decide +kernel) (pa_cons (pe_op op_mul (pv 4) (pe_op op_add (pe_op op_fdiv (pv 4) pe_int) pe_int)) pa_nil)) pe_int))
      (pss_cons (ps_set (i := 4) scDraw.nd rfl (.inl rfl) (pe_op op_mod (pe_callTy call_int1 (by rfl) T.int (by decide +kernel) (pa_cons (pe_op op_mul (pv 4) (pe_op op_add (pe_op op_fdiv (pv 4) pe_int) pe_int)) pa_nil)) pe_int))
      (pss_one (ps_ret (pe_op op_mod (pe_callTy call_int1 (by rfl) T.int (by decide +kernel) (pa_cons (pe_op op_fdiv (pv 4) pe_int) pa_nil)) (pv 1))))))))), ?_⟩
    -- pool[1] = pool[1] + 1
    refine ⟨_, rfl, p, _, _, _, rfl, rfl, SqL.of h1, rfl, _, _, rfl, rfl, _, rfl, p, _, _, 1, rfl, rfl, h1, rfl, ?_⟩
    have a1 : (upd H p (.lst ([V.int z, V.int t, V.ref c].set 1 (V.int (t + 1))))) p = some (.lst [.int z, .int (t + 1), .ref c]) := upd_same
    have a2 : (upd H p (.lst ([V.int z, V.int t, V.ref c].set 1 (V.int (t + 1))))) c = some (.lst (ns.map V.int)) := by rw [upd_ne npc.symm]; exact h2
    have a3 : Same (hid H p c) (hid (upd H p (.lst ([V.int z, V.int t, V.ref c].set 1 (V.int (t + 1))))) p c) := hid_upd (.inl rfl)
    revert a1 a2 a3
    generalize upd H p (.lst ([V.int z, V.int t, V.ref c].set 1 (V.int (t + 1)))) = H1
    intro a1 a2 a3
    refine ⟨_, rfl, p, _, _, _, rfl, rfl, SqL.of a1, rfl, ?_⟩
    refine ⟨_, rfl, c, _, rfl, .inl (SqL.of a2), _, _, rfl, rfl, _, rfl, ?_⟩
    cases ns with
    | nil =>
      refine no_of rfl ?_
      refine ⟨_, rfl, p, _, _, _, rfl, rfl, SqL.of a1, rfl, _, rfl, p, _, _, _, rfl, rfl, SqL.of a1, rfl, _, _, rfl, rfl, .inl (by constructor <;> decide), _, _, rfl, rfl, _, _, rfl, rfl, .inr (by constructor <;> decide), .inl ⟨_, rfl, _, _, rfl, rfl, (by show (0 : Int) < 2147483647; decide), ?_⟩⟩
      generalize hw : ((z + 7919 * (t + 1)) * 48271) % 2147483647 = w1
      have b1 : 0 ≤ w1 ∧ w1 < 2147483647 := by constructor <;> omega
      refine ⟨_, rfl, _, rfl, _, _, rfl, rfl, (by constructor <;> decide), _, _, rfl, rfl, _, _, rfl, rfl, .inl ⟨by omega, by omega⟩, .inl ⟨_, rfl, _, _, rfl, rfl, (by show (0 : Int) < 2147483647; decide), ?_⟩⟩
      generalize hw2 : (w1 * (w1 / 1009 + 69621)) % 2147483647 = w2
      have b2 : 0 ≤ w2 ∧ w2 < 2147483647 := by constructor <;> omega
      refine ⟨_, rfl, _, rfl, _, _, rfl, rfl, (by constructor <;> decide), _, _, rfl, rfl, _, _, rfl, rfl, .inl ⟨by omega, by omega⟩, .inl ⟨_, rfl, _, _, rfl, rfl, (by show (0 : Int) < 2147483399; decide), ?_⟩⟩
      refine ⟨_, rfl, _, _, rfl, rfl, (by constructor <;> decide), .inl ⟨_, rfl, _, rfl, _, _, rfl, rfl, m0, ?_⟩⟩
      exact k _ _ (Int.emod_nonneg _ (by omega)) (Int.emod_lt_of_pos _ m0) ⟨_, _, [], a1, a2, by simp⟩ a3
    | cons n r =>
      refine yes_of (by simp) ?_
      refine ⟨_, rfl, c, _, _, V.int n, rfl, rfl, SqL.of a2, at0 n r, .inl ⟨_, rfl, _, rfl, _, _, rfl, rfl, m0, ?_⟩⟩
      refine ⟨_, rfl, c, _, _, V.int n, rfl, rfl, SqL.of a2, at0 n r, .inl ⟨_, rfl, _, rfl, _, _, rfl, rfl, ⟨by omega, by omega⟩, _, rfl, c, _, _, 0, rfl, rfl, a2, ix0 n r, ?_⟩⟩
      have eset : ((n :: r).map V.int).set 0 (V.int (n.fdiv m)) = ((n.fdiv m) :: r).map V.int := rfl
      rw [eset]
      have c1 : (upd H1 c (.lst (((n.fdiv m) :: r).map V.int))) p = some (.lst [.int z, .int (t + 1), .ref c]) := by rw [upd_ne npc]; exact a1
      have c2 : (upd H1 c (.lst (((n.fdiv m) :: r).map V.int))) c = some (.lst (((n.fdiv m) :: r).map V.int)) := upd_same
      have c3 : Same (hid H p c) (hid (upd H1 c (.lst (((n.fdiv m) :: r).map V.int))) p c) := a3.trans (hid_upd (.inr rfl))
      revert c1 c2 c3
      generalize upd H1 c (.lst (((n.fdiv m) :: r).map V.int)) = H2
      intro c1 c2 c3
      refine ⟨_, rfl, c, _, _, V.int (n.fdiv m), rfl, rfl, SqL.of c2, at0 _ r, rfl, _, rfl, ?_⟩
      refine ite2 (fun _ => ?_) (fun _ => ?_)
      · refine ⟨_, rfl, .inl ⟨rfl, _, SqL.of c2⟩, c, _, 0, 0, V.int (n.fdiv m), rfl, rfl, c2, by decide, by decide, ?_, rfl, ?_⟩
        · exact seqIndex_of (k := 0) (Int.le_refl 0) (by rw [List.length_map, List.length_cons]; omega)
        refine ⟨_, rfl, k _ _ (Int.emod_nonneg _ (by omega)) (Int.emod_lt_of_pos _ m0) ⟨_, _, r, by rw [upd_ne npc]; exact c1, upd_same, by rw [List.length_cons] at h3; omega⟩ (c3.trans (hid_upd (.inr rfl)))⟩
      · exact ⟨_, rfl, k _ _ (Int.emod_nonneg _ (by omega)) (Int.emod_lt_of_pos _ m0) ⟨_, _, _, c1, c2, by rw [List.length_cons] at h3 ⊢; omega⟩ c3⟩
end
end My
namespace My
open PySem PySem.Spec PyProof.Rows L2 GL
def deepD : Nat → PyData
  | 0 => .list [.none]
  | n + 1 => .list [deepD n]
def spDeep (K : PySem.W.Frag) : Sp := fun vs H Q _ => vs = [] ∧ ∀ (v : V) (H' : Hp), Same H H' → Dp K H' v (deepD 35) → Q v H'
section
variable {P : Program} {w : World} {K : PySem.W.Frag} {mg : Str → Option Value} {base : Heap}
theorem scDeep : FnScope ["thing", "turn"] [] (defScope sDeep) := ⟨rfl, rfl, rfl, by decide +kernel, rfl, by decide +kernel, by decide +kernel⟩
theorem ok_deep {f : Addr} {fd : FuncData} (F : Fun K "_law_deep" "_law_deep" sDeep f fd) (T : Nm mg) : FnOk P w K mg base CX0 1 f fd [] (spDeep K) := by
  refine F.ok scDeep (fun vs H Q E h => ?_) (fun cdv A outer s H vs Q E hr h => ?_)
  · obtain ⟨rfl, _⟩ := h
    rfl
  · obtain ⟨rfl, k⟩ := h
    refine ⟨_, pss_cons (ps_set (i := 0) scDeep.nd rfl (.inl rfl) (pe_lst (pa_cons pe_non pa_nil)))
      (pss_cons (ps_for PassesOwn.never rfl (pi_range1 rfl T.range (pa_cons pe_int pa_nil)) (pg_name (i := 1) scDeep.nd rfl (.inl rfl))
        (pss_one (ps_set (i := 0) scDeep.nd rfl (.inl rfl) (pe_lst (pa_cons (pv 0) pa_nil)))))
      (pss_one (ps_ret (pv 0)))), ?_⟩
    refine ⟨by show 1 ≤ sizeLine; decide, fun p np => ?_⟩
    refine ⟨35, rfl, by decide, by decide, for_range (n := 35) (fun i σ H' => ∃ (a : V) (v : Option V), σ = [some a, v] ∧ Same H H' ∧ Dp K H' a (deepD i)) ⟨.ref p, _, rfl, same_new np, .lst (SqL.of upd_same) (.cons .non .nil)⟩ ?_ ?_⟩
    · rintro i σ H' hi ⟨a, v, rfl, s1, hd⟩
      refine ⟨_, rfl, by show 1 ≤ sizeLine; decide, fun q nq => ?_⟩
      exact ⟨.ref q, _, rfl, s1.trans (same_new nq), .lst (SqL.of upd_same) (.cons (dp_up (same_new nq) _ _ hd) .nil)⟩
    · rintro σ H' ⟨a, v, rfl, s1, hd⟩
      exact ⟨_, rfl, k _ _ s1 hd⟩
end
/-! ### data that repr can tell -/
structure Nice (D W : Nat) (d : PyData) : Prop where
  lv : d.leavesShort 24 = true
  sh : d.showable = true
  nd : d.hasDict = false
  dp : d.depth ≤ D
  wt : d.weight ≤ W
theorem Nice.mono {D W D' W' : Nat} {d : PyData} (h : Nice D W d) (h1 : D ≤ D') (h2 : W ≤ W') : Nice D' W' d := ⟨h.lv, h.sh, h.nd, Nat.le_trans h.dp h1, Nat.le_trans h.wt h2⟩
theorem Nice.fits {D W : Nat} {d : PyData} (h : Nice D W d) (hW : W ≤ 300000) : d.shown.length ≤ sizeLine := by
  have e := PyData.shown_le 24 (by decide) d h.lv
  have e2 := h.wt
  rw [sizeLine_eq]
  omega
theorem nice_deep : Nice 36 70 (deepD 35) := by constructor <;> decide +kernel
end My
set_option maxRecDepth 100000
set_option maxHeartbeats 4000000
namespace My
open PySem PySem.Spec PyProof.Rows L2 GL
/-! ### the error classes -/
structure EX (K : PySem.W.Frag) (S C : Addr) : Prop where
  cls : ∃ nm q N bs sn sub ab col dd k0 k1 k2 k3 k5, K.lookup C = some (excClassObj nm q C N bs [.ref S, .type "ValueError", .type "Exception", .type "BaseException", .type "object"] true sn sub ab col dd k0 k1 k2 k3 k5 "ValueError.__new__")
  sa : PySem.W.findIn K (.ref C) "__setattr__" = some (some (.builtin "object.__setattr__"))
  ga : PySem.W.findIn K (.ref C) "__getattribute__" = some (some (.builtin "BaseException.__getattribute__"))
  gg : PySem.W.findIn K (.ref C) "__getattr__" = some none
  ca : PySem.W.findIn K (.ref C) "__class__" = some (some (.builtin "object.__class__"))
  ty : PySem.W.typeIn K (.ref C) = some (.type "type")
  kp : PySem.W.keepIn K (.ref C) = true
section
variable {K : PySem.W.Frag} {S C D : Addr}
theorem EX.data (T : EX K S C) : ∃ cd, PySem.W.clsIn K C = some cd ∧ cd.hasDict = true ∧ cd.mro = [.ref C, .ref S, .type "ValueError", .type "Exception", .type "BaseException", .type "object"] := by
  obtain ⟨nm, q, N, bs, sn, sub, ab, col, dd, k0, k1, k2, k3, k5, hC⟩ := T.cls
  refine ⟨_, by unfold PySem.W.clsIn; rw [hC] <;> rfl, rfl, rfl⟩
theorem EX.mro (T : EX K S C) (base : Value) : PySem.W.mroIn K C base = some (([.ref C, .ref S, .type "ValueError", .type "Exception", .type "BaseException", .type "object"] : List Value).contains base) := by
  obtain ⟨cd, h1, _, h3⟩ := T.data
  unfold PySem.W.mroIn
  rw [h1, Option.bind_some, h3]
  rfl
theorem EX.dict (T : EX K S C) : PySem.W.hasDictIn K C = true := by
  obtain ⟨cd, h1, h2, _⟩ := T.data
  unfold PySem.W.hasDictIn
  rw [h1]
  exact h2
theorem EX.some (T : EX K S C) : (PySem.W.clsIn K C).isSome = true := by
  obtain ⟨cd, h1, _⟩ := T.data
  rw [h1]
  rfl
theorem has_ty (n : String) (h : ([.type "ValueError", .type "Exception", .type "BaseException", .type "object"] : List Value).contains (.type n) = true) : ([.ref C, .ref S, .type "ValueError", .type "Exception", .type "BaseException", .type "object"] : List Value).contains (.type n) = true := by
  rw [List.contains_cons, List.contains_cons, h, Bool.or_true, Bool.or_true]
theorem EX.base (T : EX K S C) : PySem.W.subIn K (.ref C) (.type "BaseException") = Option.some true := (T.mro _).trans (congrArg _ (has_ty _ (by decide +kernel)))
theorem EX.val (T : EX K S C) : PySem.W.subIn K (.ref C) (.type "ValueError") = Option.some true := (T.mro _).trans (congrArg _ (has_ty _ (by decide +kernel)))
theorem EX.obj (T : EX K S C) : PySem.W.mroIn K C (.type "object") = Option.some true := (T.mro _).trans (congrArg _ (has_ty _ (by decide +kernel)))
theorem EX.own (T : EX K S C) : PySem.W.subIn K (.ref C) (.ref S) = Option.some true := (T.mro _).trans (congrArg _ (by rw [List.contains_cons, List.contains_cons, beq_self_eq_true, Bool.true_or, Bool.or_true]))
theorem ref_ne {a b : Addr} (h : a ≠ b) : ((Value.ref a) == (Value.ref b)) = false := beq_eq_false_iff_ne.mpr fun e => h (by injection e)
theorem EX.no (T : EX K S C) (h1 : D ≠ C) (h2 : D ≠ S) : PySem.W.subIn K (.ref C) (.ref D) = Option.some false := (T.mro _).trans (congrArg _ (by
  rw [List.contains_cons, List.contains_cons, ref_ne h1, ref_ne h2, Bool.false_or, Bool.false_or]
  rfl))
theorem EX.oex (T : EX K S C) : OexC K C := by
  obtain ⟨nm, q, N, bs, sn, sub, ab, col, dd, k0, k1, k2, k3, k5, hC⟩ := T.cls
  exact ⟨⟨nm, q, N, bs, _, sn, sub, ab, col, dd, k0, k1, k2, k3, k5, hC, by show PySem.HandSPX.refsVE [.type "ValueError", .type "Exception", .type "BaseException", .type "object"] = true; decide +kernel⟩, T.sa, T.base, T.ty, T.kp⟩
theorem EX.xf (T : EX K S C) : XfC K C := ⟨T.ga, T.gg, T.base, T.dict⟩
theorem kit_of {t : Value} (h1 : (PySem.W.clsIn K D).isSome = true) (h2 : PySem.W.typeIn K (.ref D) = Option.some (.type "type")) {b : Bool} (h3 : PySem.W.subIn K t (.ref D) = Option.some b) (h0 : (t == Value.ref D) = false ∨ b = true) : PySem.W.kitOne K t (.ref D) = Option.some b := by
  have e : ((PySem.W.clsIn K D).isSome && PySem.W.typeIn K (.ref D) == Option.some (.type "type")) = true := by
    rw [h1, h2] <;> rfl
  show (if (t == Value.ref D) = true then Option.some true else (if ((PySem.W.clsIn K D).isSome && PySem.W.typeIn K (.ref D) == Option.some (.type "type")) = true then PySem.W.subIn K t (.ref D) else none)) = Option.some b
  cases hq : (t == Value.ref D) with
  | true =>
    rcases h0 with h0 | h0
    · rw [hq] at h0
      cases h0
    · rw [h0]
      rfl
  | false =>
    rw [if_neg Bool.false_ne_true, if_pos e]
    exact h3
theorem kit_val (T : EX K S C) : PySem.W.kitOne K (.ref C) (.type "ValueError") = Option.some true := by
  show (if (Value.ref C == Value.type "ValueError") = true then Option.some true else (if PySem.W.kitMeta "ValueError" = true then PySem.W.subIn K (.ref C) (.type "ValueError") else none)) = Option.some true
  rw [if_neg (by show ¬ (false = true); decide), if_pos (by rfl)]
  exact T.val
end
def Nms (mg : Str → Option Value) (c : Nat → Addr) : Prop := mg "BadBook" = some (.ref (c 0)) ∧ mg "BadBoxes" = some (.ref (c 1)) ∧ mg "BadScene" = some (.ref (c 2)) ∧ mg "BadText" = some (.ref (c 3)) ∧ mg "Barred" = some (.ref (c 4)) ∧ mg "Full" = some (.ref (c 5)) ∧ mg "Last" = some (.ref (c 6)) ∧ mg "NoBox" = some (.ref (c 7)) ∧ mg "NoContents" = some (.ref (c 8)) ∧ mg "NoDrawing" = some (.ref (c 9)) ∧ mg "NoFigures" = some (.ref (c 10)) ∧ mg "NoFilm" = some (.ref (c 11)) ∧ mg "NoLanes" = some (.ref (c 12)) ∧ mg "NoLine" = some (.ref (c 13)) ∧ mg "NoList" = some (.ref (c 14)) ∧ mg "NoLists" = some (.ref (c 15)) ∧ mg "NoMoment" = some (.ref (c 16)) ∧ mg "NoName" = some (.ref (c 17)) ∧ mg "NoNumber" = some (.ref (c 18)) ∧ mg "NoParting" = some (.ref (c 19)) ∧ mg "NoPicture" = some (.ref (c 20)) ∧ mg "NoPlaces" = some (.ref (c 21)) ∧ mg "NoRoom" = some (.ref (c 22)) ∧ mg "NoRules" = some (.ref (c 23)) ∧ mg "NoScene" = some (.ref (c 24)) ∧ mg "NoScript" = some (.ref (c 25)) ∧ mg "NoSize" = some (.ref (c 26)) ∧ mg "NoStep" = some (.ref (c 27)) ∧ mg "NoStroke" = some (.ref (c 28)) ∧ mg "NoTime" = some (.ref (c 29)) ∧ mg "NoWay" = some (.ref (c 30)) ∧ mg "NoWays" = some (.ref (c 31)) ∧ mg "NoWidth" = some (.ref (c 32)) ∧ mg "NotFree" = some (.ref (c 33)) ∧ mg "NotKept" = some (.ref (c 34)) ∧ mg "NotRunning" = some (.ref (c 35)) ∧ mg "NotWithin" = some (.ref (c 36)) ∧ mg "NothingDone" = some (.ref (c 37)) ∧ mg "TooMany" = some (.ref (c 38))
/-- all of them: S the class of what they have in common, c their row -/
structure ET (K : PySem.W.Frag) (mg : Str → Option Value) (S : Addr) (c : Nat → Addr) : Prop where
  mS : mg "StrokeError" = some (.ref S)
  iS : PySem.W.isClsIn K S = true
  tS : PySem.W.typeIn K (.ref S) = some (.type "type")
  cn : PySem.W.specialIn K (.builtin "object.__class__") "__get__" = some (some (.builtin "getset_descriptor.__get__"))
  ct : PySem.W.takesIn K (.builtin "object.__class__") = some true
  ex : ∀ j, j < 39 → EX K S (c j)
  ns : ∀ j, j < 39 → c j ≠ S
  inj : ∀ i j, i < 39 → j < 39 → c i = c j → i = j
  ms : Nms mg c
section
variable {K : PySem.W.Frag} {mg : Str → Option Value} {S : Addr} {c : Nat → Addr}
theorem ET.m0 (T : ET K mg S c) : mg "BadBook" = some (.ref (c 0)) := T.ms.1
theorem ET.m1 (T : ET K mg S c) : mg "BadBoxes" = some (.ref (c 1)) := T.ms.2.1
theorem ET.m2 (T : ET K mg S c) : mg "BadScene" = some (.ref (c 2)) := T.ms.2.2.1
theorem ET.m3 (T : ET K mg S c) : mg "BadText" = some (.ref (c 3)) := T.ms.2.2.2.1
theorem ET.m4 (T : ET K mg S c) : mg "Barred" = some (.ref (c 4)) := T.ms.2.2.2.2.1
theorem ET.m5 (T : ET K mg S c) : mg "Full" = some (.ref (c 5)) := T.ms.2.2.2.2.2.1
theorem ET.m6 (T : ET K mg S c) : mg "Last" = some (.ref (c 6)) := T.ms.2.2.2.2.2.2.1
theorem ET.m7 (T : ET K mg S c) : mg "NoBox" = some (.ref (c 7)) := T.ms.2.2.2.2.2.2.2.1
theorem ET.m8 (T : ET K mg S c) : mg "NoContents" = some (.ref (c 8)) := T.ms.2.2.2.2.2.2.2.2.1
theorem ET.m9 (T : ET K mg S c) : mg "NoDrawing" = some (.ref (c 9)) := T.ms.2.2.2.2.2.2.2.2.2.1
theorem ET.m10 (T : ET K mg S c) : mg "NoFigures" = some (.ref (c 10)) := T.ms.2.2.2.2.2.2.2.2.2.2.1
theorem ET.m11 (T : ET K mg S c) : mg "NoFilm" = some (.ref (c 11)) := T.ms.2.2.2.2.2.2.2.2.2.2.2.1
theorem ET.m12 (T : ET K mg S c) : mg "NoLanes" = some (.ref (c 12)) := T.ms.2.2.2.2.2.2.2.2.2.2.2.2.1
theorem ET.m13 (T : ET K mg S c) : mg "NoLine" = some (.ref (c 13)) := T.ms.2.2.2.2.2.2.2.2.2.2.2.2.2.1
theorem ET.m14 (T : ET K mg S c) : mg "NoList" = some (.ref (c 14)) := T.ms.2.2.2.2.2.2.2.2.2.2.2.2.2.2.1
theorem ET.m15 (T : ET K mg S c) : mg "NoLists" = some (.ref (c 15)) := T.ms.2.2.2.2.2.2.2.2.2.2.2.2.2.2.2.1
theorem ET.m16 (T : ET K mg S c) : mg "NoMoment" = some (.ref (c 16)) := T.ms.2.2.2.2.2.2.2.2.2.2.2.2.2.2.2.2.1
theorem ET.m17 (T : ET K mg S c) : mg "NoName" = some (.ref (c 17)) := T.ms.2.2.2.2.2.2.2.2.2.2.2.2.2.2.2.2.2.1
theorem ET.m18 (T : ET K mg S c) : mg "NoNumber" = some (.ref (c 18)) := T.ms.2.2.2.2.2.2.2.2.2.2.2.2.2.2.2.2.2.2.1
theorem ET.m19 (T : ET K mg S c) : mg "NoParting" = some (.ref (c 19)) := T.ms.2.2.2.2.2.2.2.2.2.2.2.2.2.2.2.2.2.2.2.1
theorem ET.m20 (T : ET K mg S c) : mg "NoPicture" = some (.ref (c 20)) := T.ms.2.2.2.2.2.2.2.2.2.2.2.2.2.2.2.2.2.2.2.2.1
theorem ET.m21 (T : ET K mg S c) : mg "NoPlaces" = some (.ref (c 21)) := T.ms.2.2.2.2.2.2.2.2.2.2.2.2.2.2.2.2.2.2.2.2.2.1
theorem ET.m22 (T : ET K mg S c) : mg "NoRoom" = some (.ref (c 22)) := T.ms.2.2.2.2.2.2.2.2.2.2.2.2.2.2.2.2.2.2.2.2.2.2.1
theorem ET.m23 (T : ET K mg S c) : mg "NoRules" = some (.ref (c 23)) := T.ms.2.2.2.2.2.2.2.2.2.2.2.2.2.2.2.2.2.2.2.2.2.2.2.1
theorem ET.m24 (T : ET K mg S c) : mg "NoScene" = some (.ref (c 24)) := T.ms.2.2.2.2.2.2.2.2.2.2.2.2.2.2.2.2.2.2.2.2.2.2.2.2.1
theorem ET.m25 (T : ET K mg S c) : mg "NoScript" = some (.ref (c 25)) := T.ms.2.2.2.2.2.2.2.2.2.2.2.2.2.2.2.2.2.2.2.2.2.2.2.2.2.1
theorem ET.m26 (T : ET K mg S c) : mg "NoSize" = some (.ref (c 26)) := T.ms.2.2.2.2.2.2.2.2.2.2.2.2.2.2.2.2.2.2.2.2.2.2.2.2.2.2.1
theorem ET.m27 (T : ET K mg S c) : mg "NoStep" = some (.ref (c 27)) := T.ms.2.2.2.2.2.2.2.2.2.2.2.2.2.2.2.2.2.2.2.2.2.2.2.2.2.2.2.1
theorem ET.m28 (T : ET K mg S c) : mg "NoStroke" = some (.ref (c 28)) := T.ms.2.2.2.2.2.2.2.2.2.2.2.2.2.2.2.2.2.2.2.2.2.2.2.2.2.2.2.2.1
theorem ET.m29 (T : ET K mg S c) : mg "NoTime" = some (.ref (c 29)) := T.ms.2.2.2.2.2.2.2.2.2.2.2.2.2.2.2.2.2.2.2.2.2.2.2.2.2.2.2.2.2.1
theorem ET.m30 (T : ET K mg S c) : mg "NoWay" = some (.ref (c 30)) := T.ms.2.2.2.2.2.2.2.2.2.2.2.2.2.2.2.2.2.2.2.2.2.2.2.2.2.2.2.2.2.2.1
theorem ET.m31 (T : ET K mg S c) : mg "NoWays" = some (.ref (c 31)) := T.ms.2.2.2.2.2.2.2.2.2.2.2.2.2.2.2.2.2.2.2.2.2.2.2.2.2.2.2.2.2.2.2.1
theorem ET.m32 (T : ET K mg S c) : mg "NoWidth" = some (.ref (c 32)) := T.ms.2.2.2.2.2.2.2.2.2.2.2.2.2.2.2.2.2.2.2.2.2.2.2.2.2.2.2.2.2.2.2.2.1
theorem ET.m33 (T : ET K mg S c) : mg "NotFree" = some (.ref (c 33)) := T.ms.2.2.2.2.2.2.2.2.2.2.2.2.2.2.2.2.2.2.2.2.2.2.2.2.2.2.2.2.2.2.2.2.2.1
theorem ET.m34 (T : ET K mg S c) : mg "NotKept" = some (.ref (c 34)) := T.ms.2.2.2.2.2.2.2.2.2.2.2.2.2.2.2.2.2.2.2.2.2.2.2.2.2.2.2.2.2.2.2.2.2.2.1
theorem ET.m35 (T : ET K mg S c) : mg "NotRunning" = some (.ref (c 35)) := T.ms.2.2.2.2.2.2.2.2.2.2.2.2.2.2.2.2.2.2.2.2.2.2.2.2.2.2.2.2.2.2.2.2.2.2.2.1
theorem ET.m36 (T : ET K mg S c) : mg "NotWithin" = some (.ref (c 36)) := T.ms.2.2.2.2.2.2.2.2.2.2.2.2.2.2.2.2.2.2.2.2.2.2.2.2.2.2.2.2.2.2.2.2.2.2.2.2.1
theorem ET.m37 (T : ET K mg S c) : mg "NothingDone" = some (.ref (c 37)) := T.ms.2.2.2.2.2.2.2.2.2.2.2.2.2.2.2.2.2.2.2.2.2.2.2.2.2.2.2.2.2.2.2.2.2.2.2.2.2.1
theorem ET.m38 (T : ET K mg S c) : mg "TooMany" = some (.ref (c 38)) := T.ms.2.2.2.2.2.2.2.2.2.2.2.2.2.2.2.2.2.2.2.2.2.2.2.2.2.2.2.2.2.2.2.2.2.2.2.2.2.2
theorem ET.exc (T : ET K mg S c) {j : Nat} (h : j < 39) : ExcC K (c j) := ⟨(T.ex j h).ga, (T.ex j h).gg, (T.ex j h).base, (T.ex j h).dict, (T.ex j h).ca, T.cn, T.ct, (T.ex j h).obj⟩
theorem ET.kit (T : ET K mg S c) {j : Nat} (h : j < 39) (i : Nat) (hi : i < 39) : PySem.W.kitOne K (.ref (c j)) (.ref (c i)) = some (decide (i = j)) := by
  by_cases e : i = j
  · subst e
    rw [decide_eq_true rfl]
    unfold PySem.W.kitOne
    rw [if_pos (beq_self_eq_true _)]
  · rw [decide_eq_false e]
    have n : c i ≠ c j := fun z => e (T.inj i j hi h z)
    exact kit_of (T.ex i hi).some (T.ex i hi).ty ((T.ex j h).no n (T.ns i hi)) (.inl (ref_ne n.symm))
theorem ET.kitS (T : ET K mg S c) {j : Nat} (h : j < 39) : PySem.W.kitOne K (.ref (c j)) (.ref S) = some true := kit_of T.iS T.tS (T.ex j h).own (.inr rfl)
end
/-! ### what makes them -/
/-- self.n = v -/
def spF (C : Addr) (n : Str) : Sp := fun vs H Q _ => ∃ (a : Addr) (v : V), vs = [.ref a, v] ∧ H a = some (exo a C none) ∧ ∀ dx, H dx = none → dx ≠ a → Q .non (upd (upd H dx (exd dx [(n, v)])) a (exo a C (some dx)))
def spF2 (C : Addr) : Sp := fun vs H Q _ => ∃ (a : Addr) (v y : V), vs = [.ref a, v, y] ∧ H a = some (exo a C none) ∧ ∀ dx, H dx = none → dx ≠ a → Q .non (upd (upd (upd H dx (exd dx [(("one" : Str), v)])) a (exo a C (some dx))) dx (exd dx [(("other" : Str), y), ("one", v)]))
def spS : Sp := fun vs H Q _ => ∃ a : Addr, vs = [.ref a] ∧ Q .non H
abbrev sS : Stmt := inClass (topS 1) 0
abbrev sBadBoxes : Stmt := inClass (topS 2) 0
abbrev sBadBook : Stmt := inClass (topS 6) 0
abbrev sTooMany : Stmt := inClass (topS 7) 0
abbrev sNotFree : Stmt := inClass (topS 11) 0
abbrev sNoLists : Stmt := inClass (topS 22) 0
abbrev sNoStep : Stmt := inClass (topS 23) 0
abbrev sBadScene : Stmt := inClass (topS 24) 0
abbrev sNoScene : Stmt := inClass (topS 26) 0
abbrev sNoFilm : Stmt := inClass (topS 29) 0
abbrev sBadText : Stmt := inClass (topS 37) 0
abbrev sNoName : Stmt := inClass (topS 40) 0
abbrev sBarred : Stmt := inClass (topS 31) 0
section
variable {P : Program} {w : World} {K : PySem.W.Frag} {mg : Str → Option Value} {base : Heap} {C S : Addr} {f : Addr} {fd : FuncData}
theorem scS : FnScope ["self"] ["self"] (defScope sS) := ⟨rfl, rfl, rfl, by decide +kernel, rfl, by decide +kernel, by decide +kernel⟩
theorem ok_S (F : Fun K "__init__" "StrokeError.__init__" sS f fd) : FnOk P w K mg base CX0 1 f fd ["self"] spS := by
  refine F.ok scS (fun vs H Q E h => ?_) (fun cdv A outer s H vs Q E hr h => ?_)
  · obtain ⟨a, rfl, _⟩ := h
    rfl
  · obtain ⟨a, rfl, k⟩ := h
    refine ⟨_, pss_one ps_pass, ?_⟩
    exact k
theorem scBadBoxes : FnScope ["self", "part"] ["self", "part"] (defScope sBadBoxes) := ⟨rfl, rfl, rfl, by decide +kernel, rfl, by decide +kernel, by decide +kernel⟩
theorem ok_BadBoxes (F : Fun K "__init__" "BadBoxes.__init__" sBadBoxes f fd) (T : EX K S C) (no : PySem.W.findIn K (.ref C) "part" = some none) : FnOk P w K mg base CX0 1 f fd ["self", "part"] (spF C "part") := by
  refine F.ok scBadBoxes (fun vs H Q E h => ?_) (fun cdv A outer s H vs Q E hr h => ?_)
  · obtain ⟨a, v, rfl, _⟩ := h
    rfl
  · obtain ⟨a, v, rfl, ha, k⟩ := h
    refine ⟨_, pss_one (ps_ost (pv 0) (pv 1)), ?_⟩
    exact ⟨_, rfl, _, rfl, a, C, rfl, T.oex, no, .inl ⟨ha, fun dx n1 n2 => k dx n1 n2⟩⟩
theorem scBadBook : FnScope ["self", "index"] ["self", "index"] (defScope sBadBook) := ⟨rfl, rfl, rfl, by decide +kernel, rfl, by decide +kernel, by decide +kernel⟩
theorem ok_BadBook (F : Fun K "__init__" "BadBook.__init__" sBadBook f fd) (T : EX K S C) (no : PySem.W.findIn K (.ref C) "index" = some none) : FnOk P w K mg base CX0 1 f fd ["self", "index"] (spF C "index") := by
  refine F.ok scBadBook (fun vs H Q E h => ?_) (fun cdv A outer s H vs Q E hr h => ?_)
  · obtain ⟨a, v, rfl, _⟩ := h
    rfl
  · obtain ⟨a, v, rfl, ha, k⟩ := h
    refine ⟨_, pss_one (ps_ost (pv 0) (pv 1)), ?_⟩
    exact ⟨_, rfl, _, rfl, a, C, rfl, T.oex, no, .inl ⟨ha, fun dx n1 n2 => k dx n1 n2⟩⟩
theorem scTooMany : FnScope ["self", "most"] ["self", "most"] (defScope sTooMany) := ⟨rfl, rfl, rfl, by decide +kernel, rfl, by decide +kernel, by decide +kernel⟩
theorem ok_TooMany (F : Fun K "__init__" "TooMany.__init__" sTooMany f fd) (T : EX K S C) (no : PySem.W.findIn K (.ref C) "most" = some none) : FnOk P w K mg base CX0 1 f fd ["self", "most"] (spF C "most") := by
  refine F.ok scTooMany (fun vs H Q E h => ?_) (fun cdv A outer s H vs Q E hr h => ?_)
  · obtain ⟨a, v, rfl, _⟩ := h
    rfl
  · obtain ⟨a, v, rfl, ha, k⟩ := h
    refine ⟨_, pss_one (ps_ost (pv 0) (pv 1)), ?_⟩
    exact ⟨_, rfl, _, rfl, a, C, rfl, T.oex, no, .inl ⟨ha, fun dx n1 n2 => k dx n1 n2⟩⟩
theorem scNotFree : FnScope ["self", "number"] ["self", "number"] (defScope sNotFree) := ⟨rfl, rfl, rfl, by decide +kernel, rfl, by decide +kernel, by decide +kernel⟩
theorem ok_NotFree (F : Fun K "__init__" "NotFree.__init__" sNotFree f fd) (T : EX K S C) (no : PySem.W.findIn K (.ref C) "number" = some none) : FnOk P w K mg base CX0 1 f fd ["self", "number"] (spF C "number") := by
  refine F.ok scNotFree (fun vs H Q E h => ?_) (fun cdv A outer s H vs Q E hr h => ?_)
  · obtain ⟨a, v, rfl, _⟩ := h
    rfl
  · obtain ⟨a, v, rfl, ha, k⟩ := h
    refine ⟨_, pss_one (ps_ost (pv 0) (pv 1)), ?_⟩
    exact ⟨_, rfl, _, rfl, a, C, rfl, T.oex, no, .inl ⟨ha, fun dx n1 n2 => k dx n1 n2⟩⟩
theorem scNoLists : FnScope ["self", "index"] ["self", "index"] (defScope sNoLists) := ⟨rfl, rfl, rfl, by decide +kernel, rfl, by decide +kernel, by decide +kernel⟩
theorem ok_NoLists (F : Fun K "__init__" "NoLists.__init__" sNoLists f fd) (T : EX K S C) (no : PySem.W.findIn K (.ref C) "index" = some none) : FnOk P w K mg base CX0 1 f fd ["self", "index"] (spF C "index") := by
  refine F.ok scNoLists (fun vs H Q E h => ?_) (fun cdv A outer s H vs Q E hr h => ?_)
  · obtain ⟨a, v, rfl, _⟩ := h
    rfl
  · obtain ⟨a, v, rfl, ha, k⟩ := h
    refine ⟨_, pss_one (ps_ost (pv 0) (pv 1)), ?_⟩
    exact ⟨_, rfl, _, rfl, a, C, rfl, T.oex, no, .inl ⟨ha, fun dx n1 n2 => k dx n1 n2⟩⟩
theorem scNoStep : FnScope ["self", "number"] ["self", "number"] (defScope sNoStep) := ⟨rfl, rfl, rfl, by decide +kernel, rfl, by decide +kernel, by decide +kernel⟩
theorem ok_NoStep (F : Fun K "__init__" "NoStep.__init__" sNoStep f fd) (T : EX K S C) (no : PySem.W.findIn K (.ref C) "number" = some none) : FnOk P w K mg base CX0 1 f fd ["self", "number"] (spF C "number") := by
  refine F.ok scNoStep (fun vs H Q E h => ?_) (fun cdv A outer s H vs Q E hr h => ?_)
  · obtain ⟨a, v, rfl, _⟩ := h
    rfl
  · obtain ⟨a, v, rfl, ha, k⟩ := h
    refine ⟨_, pss_one (ps_ost (pv 0) (pv 1)), ?_⟩
    exact ⟨_, rfl, _, rfl, a, C, rfl, T.oex, no, .inl ⟨ha, fun dx n1 n2 => k dx n1 n2⟩⟩
theorem scBadScene : FnScope ["self", "part"] ["self", "part"] (defScope sBadScene) := ⟨rfl, rfl, rfl, by decide +kernel, rfl, by decide +kernel, by decide +kernel⟩
theorem ok_BadScene (F : Fun K "__init__" "BadScene.__init__" sBadScene f fd) (T : EX K S C) (no : PySem.W.findIn K (.ref C) "part" = some none) : FnOk P w K mg base CX0 1 f fd ["self", "part"] (spF C "part") := by
  refine F.ok scBadScene (fun vs H Q E h => ?_) (fun cdv A outer s H vs Q E hr h => ?_)
  · obtain ⟨a, v, rfl, _⟩ := h
    rfl
  · obtain ⟨a, v, rfl, ha, k⟩ := h
    refine ⟨_, pss_one (ps_ost (pv 0) (pv 1)), ?_⟩
    exact ⟨_, rfl, _, rfl, a, C, rfl, T.oex, no, .inl ⟨ha, fun dx n1 n2 => k dx n1 n2⟩⟩
theorem scNoScene : FnScope ["self", "why"] ["self", "why"] (defScope sNoScene) := ⟨rfl, rfl, rfl, by decide +kernel, rfl, by decide +kernel, by decide +kernel⟩
theorem ok_NoScene (F : Fun K "__init__" "NoScene.__init__" sNoScene f fd) (T : EX K S C) (no : PySem.W.findIn K (.ref C) "why" = some none) : FnOk P w K mg base CX0 1 f fd ["self", "why"] (spF C "why") := by
  refine F.ok scNoScene (fun vs H Q E h => ?_) (fun cdv A outer s H vs Q E hr h => ?_)
  · obtain ⟨a, v, rfl, _⟩ := h
    rfl
  · obtain ⟨a, v, rfl, ha, k⟩ := h
    refine ⟨_, pss_one (ps_ost (pv 0) (pv 1)), ?_⟩
    exact ⟨_, rfl, _, rfl, a, C, rfl, T.oex, no, .inl ⟨ha, fun dx n1 n2 => k dx n1 n2⟩⟩
theorem scNoFilm : FnScope ["self", "index"] ["self", "index"] (defScope sNoFilm) := ⟨rfl, rfl, rfl, by decide +kernel, rfl, by decide +kernel, by decide +kernel⟩
theorem ok_NoFilm (F : Fun K "__init__" "NoFilm.__init__" sNoFilm f fd) (T : EX K S C) (no : PySem.W.findIn K (.ref C) "index" = some none) : FnOk P w K mg base CX0 1 f fd ["self", "index"] (spF C "index") := by
  refine F.ok scNoFilm (fun vs H Q E h => ?_) (fun cdv A outer s H vs Q E hr h => ?_)
  · obtain ⟨a, v, rfl, _⟩ := h
    rfl
  · obtain ⟨a, v, rfl, ha, k⟩ := h
    refine ⟨_, pss_one (ps_ost (pv 0) (pv 1)), ?_⟩
    exact ⟨_, rfl, _, rfl, a, C, rfl, T.oex, no, .inl ⟨ha, fun dx n1 n2 => k dx n1 n2⟩⟩
theorem scBadText : FnScope ["self", "line"] ["self", "line"] (defScope sBadText) := ⟨rfl, rfl, rfl, by decide +kernel, rfl, by decide +kernel, by decide +kernel⟩
theorem ok_BadText (F : Fun K "__init__" "BadText.__init__" sBadText f fd) (T : EX K S C) (no : PySem.W.findIn K (.ref C) "line" = some none) : FnOk P w K mg base CX0 1 f fd ["self", "line"] (spF C "line") := by
  refine F.ok scBadText (fun vs H Q E h => ?_) (fun cdv A outer s H vs Q E hr h => ?_)
  · obtain ⟨a, v, rfl, _⟩ := h
    rfl
  · obtain ⟨a, v, rfl, ha, k⟩ := h
    refine ⟨_, pss_one (ps_ost (pv 0) (pv 1)), ?_⟩
    exact ⟨_, rfl, _, rfl, a, C, rfl, T.oex, no, .inl ⟨ha, fun dx n1 n2 => k dx n1 n2⟩⟩
theorem scNoName : FnScope ["self", "name"] ["self", "name"] (defScope sNoName) := ⟨rfl, rfl, rfl, by decide +kernel, rfl, by decide +kernel, by decide +kernel⟩
theorem ok_NoName (F : Fun K "__init__" "NoName.__init__" sNoName f fd) (T : EX K S C) (no : PySem.W.findIn K (.ref C) "name" = some none) : FnOk P w K mg base CX0 1 f fd ["self", "name"] (spF C "name") := by
  refine F.ok scNoName (fun vs H Q E h => ?_) (fun cdv A outer s H vs Q E hr h => ?_)
  · obtain ⟨a, v, rfl, _⟩ := h
    rfl
  · obtain ⟨a, v, rfl, ha, k⟩ := h
    refine ⟨_, pss_one (ps_ost (pv 0) (pv 1)), ?_⟩
    exact ⟨_, rfl, _, rfl, a, C, rfl, T.oex, no, .inl ⟨ha, fun dx n1 n2 => k dx n1 n2⟩⟩
theorem scBarred : FnScope ["self", "one", "other"] ["self", "one", "other"] (defScope sBarred) := ⟨rfl, rfl, rfl, by decide +kernel, rfl, by decide +kernel, by decide +kernel⟩
theorem ok_Barred (F : Fun K "__init__" "Barred.__init__" sBarred f fd) (T : EX K S C) (no1 : PySem.W.findIn K (.ref C) "one" = some none) (no2 : PySem.W.findIn K (.ref C) "other" = some none) : FnOk P w K mg base CX0 1 f fd ["self", "one", "other"] (spF2 C) := by
  refine F.ok scBarred (fun vs H Q E h => ?_) (fun cdv A outer s H vs Q E hr h => ?_)
  · obtain ⟨a, v, y, rfl, _⟩ := h
    rfl
  · obtain ⟨a, v, y, rfl, ha, k⟩ := h
    refine ⟨_, pss_cons (ps_ost (pv 0) (pv 1)) (pss_one (ps_ost (pv 0) (pv 2))), ?_⟩
    refine ⟨_, rfl, _, rfl, a, C, rfl, T.oex, no1, .inl ⟨ha, fun dx n1 n2 => ?_⟩⟩
    exact ⟨_, rfl, _, rfl, a, C, rfl, T.oex, no2, .inr ⟨dx, _, upd_same, by rw [upd_ne n2, upd_same], by show 1 ≤ 900; decide, k dx n1 n2⟩⟩
end
end My
set_option maxRecDepth 100000
set_option maxHeartbeats 4000000
namespace My
open PySem PySem.Spec PyProof.Rows L2 GL
abbrev sMade : Stmt := topS 45
abbrev sPlain : Stmt := topS 46
abbrev sKinds : Stmt := topS 47
def bits (j : Nat) : List Bool := (List.range 39).map fun i => decide (i = j)
def spKinds (K : PySem.W.Frag) (c : Nat → Addr) : Sp := fun vs H Q _ => ∃ (a : Addr) (j : Nat), vs = [.ref a] ∧ j < 39 ∧ Er H a (c j) ∧ ∀ (l : Addr) (H' : Hp), Same H H' → SqL K H' l ((bits j).map V.bl) → Q (.ref l) H'
section
variable {P : Program} {w : World} {K : PySem.W.Frag} {mg : Str → Option Value} {base : Heap} {S : Addr} {c : Nat → Addr}
theorem scKinds : FnScope ["e", "found"] ["e"] (defScope sKinds) := ⟨rfl, rfl, rfl, by decide +kernel, rfl, by decide +kernel, by decide +kernel⟩
theorem isv4 {σ : L2.St} {H : Hp} {a : Addr} {j : Nat} {Q : VK} (T : ET K mg S c) (hj : j < 39) (i0 i1 i2 i3 : Nat) (h0 : i0 < 39) (h1 : i1 < 39) (h2 : i2 < 39) (h3 : i3 < 39) (he : Er H a (c j)) (hs : σ[0]? = some (some (.ref a)))
    (h : ∀ p, H p = none → Q (.ref p) (upd H p (.lst [V.bl (decide (i0 = j)), V.bl (decide (i1 = j)), V.bl (decide (i2 = j)), V.bl (decide (i3 = j))]))) : tLst (tCons (tCB (rIsV K) (tCons (tVar 0) (tCons (tC (.ref (c i0))) tNil))) (tCons (tCB (rIsV K) (tCons (tVar 0) (tCons (tC (.ref (c i1))) tNil))) (tCons (tCB (rIsV K) (tCons (tVar 0) (tCons (tC (.ref (c i2))) tNil))) (tCons (tCB (rIsV K) (tCons (tVar 0) (tCons (tC (.ref (c i3))) tNil))) tNil)))) σ H Q :=
  ⟨_, hs, a, _, _, _, _, rfl, he, T.exc hj, .own _, T.kit hj i0 h0, ⟨_, hs, a, _, _, _, _, rfl, he, T.exc hj, .own _, T.kit hj i1 h1, ⟨_, hs, a, _, _, _, _, rfl, he, T.exc hj, .own _, T.kit hj i2 h2, ⟨_, hs, a, _, _, _, _, rfl, he, T.exc hj, .own _, T.kit hj i3 h3, ⟨by show 4 ≤ sizeLine; decide, h⟩⟩⟩⟩⟩
theorem isv3 {σ : L2.St} {H : Hp} {a : Addr} {j : Nat} {Q : VK} (T : ET K mg S c) (hj : j < 39) (i0 i1 i2 : Nat) (h0 : i0 < 39) (h1 : i1 < 39) (h2 : i2 < 39) (he : Er H a (c j)) (hs : σ[0]? = some (some (.ref a)))
    (h : ∀ p, H p = none → Q (.ref p) (upd H p (.lst [V.bl (decide (i0 = j)), V.bl (decide (i1 = j)), V.bl (decide (i2 = j))]))) : tLst (tCons (tCB (rIsV K) (tCons (tVar 0) (tCons (tC (.ref (c i0))) tNil))) (tCons (tCB (rIsV K) (tCons (tVar 0) (tCons (tC (.ref (c i1))) tNil))) (tCons (tCB (rIsV K) (tCons (tVar 0) (tCons (tC (.ref (c i2))) tNil))) tNil))) σ H Q :=
  ⟨_, hs, a, _, _, _, _, rfl, he, T.exc hj, .own _, T.kit hj i0 h0, ⟨_, hs, a, _, _, _, _, rfl, he, T.exc hj, .own _, T.kit hj i1 h1, ⟨_, hs, a, _, _, _, _, rfl, he, T.exc hj, .own _, T.kit hj i2 h2, ⟨by show 3 ≤ sizeLine; decide, h⟩⟩⟩⟩
theorem ok_kinds {f : Addr} {fd : FuncData} (F : Fun K "_law_kinds" "_law_kinds" sKinds f fd) (N : Nm mg) (T : ET K mg S c) : FnOk P w K mg base CX0 1 f fd ["e"] (spKinds K c) := by
  refine F.ok scKinds (fun vs H Q E h => ?_) (fun cdv A outer s H vs Q E hr h => ?_)
  · obtain ⟨a, j, rfl, _⟩ := h
    rfl
  · obtain ⟨a, j, rfl, hj, he, k⟩ := h
    refine ⟨_, pss_cons (ps_set (i := 1) scKinds.nd rfl (.inl rfl) (pe_lst (pa_cons (pe_callB call_isV (by rfl) N.isinstance (by decide +kernel) (pa_cons (pv 0) (pa_cons (pe_glob (v := .ref (c 0)) rfl T.m0 rfl) pa_nil))) (pa_cons (pe_callB call_isV (by rfl) N.isinstance (by decide +kernel) (pa_cons (pv 0) (pa_cons (pe_glob (v := .ref (c 1)) rfl T.m1 rfl) pa_nil))) (pa_cons (pe_callB call_isV (by rfl) N.isinstance (by decide +kernel) (pa_cons (pv 0) (pa_cons (pe_glob (v := .ref (c 2)) rfl T.m2 rfl) pa_nil))) (pa_cons (pe_callB call_isV (by rfl) N.isinstance (by decide +kernel) (pa_cons (pv 0) (pa_cons (pe_glob (v := .ref (c 3)) rfl T.m3 rfl) pa_nil))) pa_nil))))))
      (pss_cons (ps_set (i := 1) scKinds.nd rfl (.inl rfl) (pe_op op_cat (pv 1) (pe_lst (pa_cons (pe_callB call_isV (by rfl) N.isinstance (by decide +kernel) (pa_cons (pv 0) (pa_cons (pe_glob (v := .ref (c 4)) rfl T.m4 rfl) pa_nil))) (pa_cons (pe_callB call_isV (by rfl) N.isinstance (by decide +kernel) (pa_cons (pv 0) (pa_cons (pe_glob (v := .ref (c 5)) rfl T.m5 rfl) pa_nil))) (pa_cons (pe_callB call_isV (by rfl) N.isinstance (by decide +kernel) (pa_cons (pv 0) (pa_cons (pe_glob (v := .ref (c 6)) rfl T.m6 rfl) pa_nil))) (pa_cons (pe_callB call_isV (by rfl) N.isinstance (by decide +kernel) (pa_cons (pv 0) (pa_cons (pe_glob (v := .ref (c 7)) rfl T.m7 rfl) pa_nil))) pa_nil)))))))
      (pss_cons (ps_set (i := 1) scKinds.nd rfl (.inl rfl) (pe_op op_cat (pv 1) (pe_lst (pa_cons (pe_callB call_isV (by rfl) N.isinstance (by decide +kernel) (pa_cons (pv 0) (pa_cons (pe_glob (v := .ref (c 8)) rfl T.m8 rfl) pa_nil))) (pa_cons (pe_callB call_isV (by rfl) N.isinstance (by decide +kernel) (pa_cons (pv 0) (pa_cons (pe_glob (v := .ref (c 9)) rfl T.m9 rfl) pa_nil))) (pa_cons (pe_callB call_isV (by rfl) N.isinstance (by decide +kernel) (pa_cons (pv 0) (pa_cons (pe_glob (v := .ref (c 10)) rfl T.m10 rfl) pa_nil))) (pa_cons (pe_callB call_isV (by rfl) N.isinstance (by decide +kernel) (pa_cons (pv 0) (pa_cons (pe_glob (v := .ref (c 11)) rfl T.m11 rfl) pa_nil))) pa_nil)))))))
      (pss_cons (ps_set (i := 1) scKinds.nd rfl (.inl rfl) (pe_op op_cat (pv 1) (pe_lst (pa_cons (pe_callB call_isV (by rfl) N.isinstance (by decide +kernel) (pa_cons (pv 0) (pa_cons (pe_glob (v := .ref (c 12)) rfl T.m12 rfl) pa_nil))) (pa_cons (pe_callB call_isV (by rfl) N.isinstance (by decide +kernel) (pa_cons (pv 0) (pa_cons (pe_glob (v := .ref (c 13)) rfl T.m13 rfl) pa_nil))) (pa_cons (pe_callB call_isV (by rfl) N.isinstance (by decide +kernel) (pa_cons (pv 0) (pa_cons (pe_glob (v := .ref (c 14)) rfl T.m14 rfl) pa_nil))) (pa_cons (pe_callB call_isV (by rfl) N.isinstance (by decide +kernel) (pa_cons (pv 0) (pa_cons (pe_glob (v := .ref (c 15)) rfl T.m15 rfl) pa_nil))) pa_nil)))))))
      (pss_cons (ps_set (i := 1) scKinds.nd rfl (.inl rfl) (pe_op op_cat (pv 1) (pe_lst (pa_cons (pe_callB call_isV (by rfl) N.isinstance (by decide +kernel) (pa_cons (pv 0) (pa_cons (pe_glob (v := .ref (c 16)) rfl T.m16 rfl) pa_nil))) (pa_cons (pe_callB call_isV (by rfl) N.isinstance (by decide +kernel) (pa_cons (pv 0) (pa_cons (pe_glob (v := .ref (c 17)) rfl T.m17 rfl) pa_nil))) (pa_cons (pe_callB call_isV (by rfl) N.isinstance (by decide +kernel) (pa_cons (pv 0) (pa_cons (pe_glob (v := .ref (c 18)) rfl T.m18 rfl) pa_nil))) (pa_cons (pe_callB call_isV (by rfl) N.isinstance (by decide +kernel) (pa_cons (pv 0) (pa_cons (pe_glob (v := .ref (c 19)) rfl T.m19 rfl) pa_nil))) pa_nil)))))))
      (pss_cons (ps_set (i := 1) scKinds.nd rfl (.inl rfl) (pe_op op_cat (pv 1) (pe_lst (pa_cons (pe_callB call_isV (by rfl) N.isinstance (by decide +kernel) (pa_cons (pv 0) (pa_cons (pe_glob (v := .ref (c 20)) rfl T.m20 rfl) pa_nil))) (pa_cons (pe_callB call_isV (by rfl) N.isinstance (by decide +kernel) (pa_cons (pv 0) (pa_cons (pe_glob (v := .ref (c 21)) rfl T.m21 rfl) pa_nil))) (pa_cons (pe_callB call_isV (by rfl) N.isinstance (by decide +kernel) (pa_cons (pv 0) (pa_cons (pe_glob (v := .ref (c 22)) rfl T.m22 rfl) pa_nil))) (pa_cons (pe_callB call_isV (by rfl) N.isinstance (by decide +kernel) (pa_cons (pv 0) (pa_cons (pe_glob (v := .ref (c 23)) rfl T.m23 rfl) pa_nil))) pa_nil)))))))
      (pss_cons (ps_set (i := 1) scKinds.nd rfl (.inl rfl) (pe_op op_cat (pv 1) (pe_lst (pa_cons (pe_callB call_isV (by rfl) N.isinstance (by decide +kernel) (pa_cons (pv 0) (pa_cons (pe_glob (v := .ref (c 24)) rfl T.m24 rfl) pa_nil))) (pa_cons (pe_callB call_isV (by rfl) N.isinstance (by decide +kernel) (pa_cons (pv 0) (pa_cons (pe_glob (v := .ref (c 25)) rfl T.m25 rfl) pa_nil))) (pa_cons (pe_callB call_isV (by rfl) N.isinstance (by decide +kernel) (pa_cons (pv 0) (pa_cons (pe_glob (v := .ref (c 26)) rfl T.m26 rfl) pa_nil))) (pa_cons (pe_callB call_isV (by rfl) N.isinstance (by decide +kernel) (pa_cons (pv 0) (pa_cons (pe_glob (v := .ref (c 27)) rfl T.m27 rfl) pa_nil))) pa_nil)))))))
      (pss_cons (ps_set (i := 1) scKinds.nd rfl (.inl rfl) (pe_op op_cat (pv 1) (pe_lst (pa_cons (pe_callB call_isV (by rfl) N.isinstance (by decide +kernel) (pa_cons (pv 0) (pa_cons (pe_glob (v := .ref (c 28)) rfl T.m28 rfl) pa_nil))) (pa_cons (pe_callB call_isV (by rfl) N.isinstance (by decide +kernel) (pa_cons (pv 0) (pa_cons (pe_glob (v := .ref (c 29)) rfl T.m29 rfl) pa_nil))) (pa_cons (pe_callB call_isV (by rfl) N.isinstance (by decide +kernel) (pa_cons (pv 0) (pa_cons (pe_glob (v := .ref (c 30)) rfl T.m30 rfl) pa_nil))) (pa_cons (pe_callB call_isV (by rfl) N.isinstance (by decide +kernel) (pa_cons (pv 0) (pa_cons (pe_glob (v := .ref (c 31)) rfl T.m31 rfl) pa_nil))) pa_nil)))))))
      (pss_cons (ps_set (i := 1) scKinds.nd rfl (.inl rfl) (pe_op op_cat (pv 1) (pe_lst (pa_cons (pe_callB call_isV (by rfl) N.isinstance (by decide +kernel) (pa_cons (pv 0) (pa_cons (pe_glob (v := .ref (c 32)) rfl T.m32 rfl) pa_nil))) (pa_cons (pe_callB call_isV (by rfl) N.isinstance (by decide +kernel) (pa_cons (pv 0) (pa_cons (pe_glob (v := .ref (c 33)) rfl T.m33 rfl) pa_nil))) (pa_cons (pe_callB call_isV (by rfl) N.isinstance (by decide +kernel) (pa_cons (pv 0) (pa_cons (pe_glob (v := .ref (c 34)) rfl T.m34 rfl) pa_nil))) (pa_cons (pe_callB call_isV (by rfl) N.isinstance (by decide +kernel) (pa_cons (pv 0) (pa_cons (pe_glob (v := .ref (c 35)) rfl T.m35 rfl) pa_nil))) pa_nil)))))))
      (pss_cons (ps_set (i := 1) scKinds.nd rfl (.inl rfl) (pe_op op_cat (pv 1) (pe_lst (pa_cons (pe_callB call_isV (by rfl) N.isinstance (by decide +kernel) (pa_cons (pv 0) (pa_cons (pe_glob (v := .ref (c 36)) rfl T.m36 rfl) pa_nil))) (pa_cons (pe_callB call_isV (by rfl) N.isinstance (by decide +kernel) (pa_cons (pv 0) (pa_cons (pe_glob (v := .ref (c 37)) rfl T.m37 rfl) pa_nil))) (pa_cons (pe_callB call_isV (by rfl) N.isinstance (by decide +kernel) (pa_cons (pv 0) (pa_cons (pe_glob (v := .ref (c 38)) rfl T.m38 rfl) pa_nil))) pa_nil))))))
      (pss_one (ps_ret (pv 1)))))))))))), ?_⟩
    unfold tSeq tAsg
    refine isv4 T hj 0 1 2 3 (by decide) (by decide) (by decide) (by decide) he (by rfl) (fun p0 n0 => ?_)
    have w : Same H (upd H p0 (.lst [V.bl (decide (0 = j)), V.bl (decide (1 = j)), V.bl (decide (2 = j)), V.bl (decide (3 = j))])) := same_new n0
    have q : (upd H p0 (.lst [V.bl (decide (0 = j)), V.bl (decide (1 = j)), V.bl (decide (2 = j)), V.bl (decide (3 = j))])) p0 = some (.lst [V.bl (decide (0 = j)), V.bl (decide (1 = j)), V.bl (decide (2 = j)), V.bl (decide (3 = j))]) := upd_same
    have he := he.up w
    revert w q he
    generalize (upd H p0 (.lst [V.bl (decide (0 = j)), V.bl (decide (1 = j)), V.bl (decide (2 = j)), V.bl (decide (3 = j))])) = G0
    intro w q he
    refine ⟨_, rfl, ?_⟩
    refine isv4 T hj 4 5 6 7 (by decide) (by decide) (by decide) (by decide) he (by rfl) (fun p1 n1 => ?_)
    refine ⟨p0, p1, [V.bl (decide (0 = j)), V.bl (decide (1 = j)), V.bl (decide (2 = j)), V.bl (decide (3 = j))], [V.bl (decide (4 = j)), V.bl (decide (5 = j)), V.bl (decide (6 = j)), V.bl (decide (7 = j))], rfl, rfl, same_new n1 _ _ q, upd_same, by show 8 ≤ sizeLine; decide, fun r1 z1 => ?_⟩
    have w2 : Same G0 (upd (upd G0 p1 (.lst [V.bl (decide (4 = j)), V.bl (decide (5 = j)), V.bl (decide (6 = j)), V.bl (decide (7 = j))])) r1 (.lst ([V.bl (decide (0 = j)), V.bl (decide (1 = j)), V.bl (decide (2 = j)), V.bl (decide (3 = j))] ++ [V.bl (decide (4 = j)), V.bl (decide (5 = j)), V.bl (decide (6 = j)), V.bl (decide (7 = j))]))) := (same_new n1).trans (same_new z1)
    have w := w.trans w2
    have he := he.up w2
    have q : (upd (upd G0 p1 (.lst [V.bl (decide (4 = j)), V.bl (decide (5 = j)), V.bl (decide (6 = j)), V.bl (decide (7 = j))])) r1 (.lst ([V.bl (decide (0 = j)), V.bl (decide (1 = j)), V.bl (decide (2 = j)), V.bl (decide (3 = j))] ++ [V.bl (decide (4 = j)), V.bl (decide (5 = j)), V.bl (decide (6 = j)), V.bl (decide (7 = j))]))) r1 = some (.lst ([V.bl (decide (0 = j)), V.bl (decide (1 = j)), V.bl (decide (2 = j)), V.bl (decide (3 = j))] ++ [V.bl (decide (4 = j)), V.bl (decide (5 = j)), V.bl (decide (6 = j)), V.bl (decide (7 = j))])) := upd_same
    clear w2
    revert w q he
    generalize (upd (upd G0 p1 (.lst [V.bl (decide (4 = j)), V.bl (decide (5 = j)), V.bl (decide (6 = j)), V.bl (decide (7 = j))])) r1 (.lst ([V.bl (decide (0 = j)), V.bl (decide (1 = j)), V.bl (decide (2 = j)), V.bl (decide (3 = j))] ++ [V.bl (decide (4 = j)), V.bl (decide (5 = j)), V.bl (decide (6 = j)), V.bl (decide (7 = j))]))) = G1
    intro w he q
    refine ⟨_, rfl, ?_⟩
    refine isv4 T hj 8 9 10 11 (by decide) (by decide) (by decide) (by decide) he (by rfl) (fun p2 n2 => ?_)
    refine ⟨r1, p2, ([V.bl (decide (0 = j)), V.bl (decide (1 = j)), V.bl (decide (2 = j)), V.bl (decide (3 = j))] ++ [V.bl (decide (4 = j)), V.bl (decide (5 = j)), V.bl (decide (6 = j)), V.bl (decide (7 = j))]), [V.bl (decide (8 = j)), V.bl (decide (9 = j)), V.bl (decide (10 = j)), V.bl (decide (11 = j))], rfl, rfl, same_new n2 _ _ q, upd_same, by show 12 ≤ sizeLine; decide, fun r2 z2 => ?_⟩
    have w2 : Same G1 (upd (upd G1 p2 (.lst [V.bl (decide (8 = j)), V.bl (decide (9 = j)), V.bl (decide (10 = j)), V.bl (decide (11 = j))])) r2 (.lst (([V.bl (decide (0 = j)), V.bl (decide (1 = j)), V.bl (decide (2 = j)), V.bl (decide (3 = j))] ++ [V.bl (decide (4 = j)), V.bl (decide (5 = j)), V.bl (decide (6 = j)), V.bl (decide (7 = j))]) ++ [V.bl (decide (8 = j)), V.bl (decide (9 = j)), V.bl (decide (10 = j)), V.bl (decide (11 = j))]))) := (same_new n2).trans (same_new z2)
    have w := w.trans w2
    have he := he.up w2
    have q : (upd (upd G1 p2 (.lst [V.bl (decide (8 = j)), V.bl (decide (9 = j)), V.bl (decide (10 = j)), V.bl (decide (11 = j))])) r2 (.lst (([V.bl (decide (0 = j)), V.bl (decide (1 = j)), V.bl (decide (2 = j)), V.bl (decide (3 = j))] ++ [V.bl (decide (4 = j)), V.bl (decide (5 = j)), V.bl (decide (6 = j)), V.bl (decide (7 = j))]) ++ [V.bl (decide (8 = j)), V.bl (decide (9 = j)), V.bl (decide (10 = j)), V.bl (decide (11 = j))]))) r2 = some (.lst (([V.bl (decide (0 = j)), V.bl (decide (1 = j)), V.bl (decide (2 = j)), V.bl (decide (3 = j))] ++ [V.bl (decide (4 = j)), V.bl (decide (5 = j)), V.bl (decide (6 = j)), V.bl (decide (7 = j))]) ++ [V.bl (decide (8 = j)), V.bl (decide (9 = j)), V.bl (decide (10 = j)), V.bl (decide (11 = j))])) := upd_same
    clear w2
    revert w q he
    generalize (upd (upd G1 p2 (.lst [V.bl (decide (8 = j)), V.bl (decide (9 = j)), V.bl (decide (10 = j)), V.bl (decide (11 = j))])) r2 (.lst (([V.bl (decide (0 = j)), V.bl (decide (1 = j)), V.bl (decide (2 = j)), V.bl (decide (3 = j))] ++ [V.bl (decide (4 = j)), V.bl (decide (5 = j)), V.bl (decide (6 = j)), V.bl (decide (7 = j))]) ++ [V.bl (decide (8 = j)), V.bl (decide (9 = j)), V.bl (decide (10 = j)), V.bl (decide (11 = j))]))) = G2
    intro w he q
    refine ⟨_, rfl, ?_⟩
    refine isv4 T hj 12 13 14 15 (by decide) (by decide) (by decide) (by decide) he (by rfl) (fun p3 n3 => ?_)
    refine ⟨r2, p3, (([V.bl (decide (0 = j)), V.bl (decide (1 = j)), V.bl (decide (2 = j)), V.bl (decide (3 = j))] ++ [V.bl (decide (4 = j)), V.bl (decide (5 = j)), V.bl (decide (6 = j)), V.bl (decide (7 = j))]) ++ [V.bl (decide (8 = j)), V.bl (decide (9 = j)), V.bl (decide (10 = j)), V.bl (decide (11 = j))]), [V.bl (decide (12 = j)), V.bl (decide (13 = j)), V.bl (decide (14 = j)), V.bl (decide (15 = j))], rfl, rfl, same_new n3 _ _ q, upd_same, by show 16 ≤ sizeLine; decide, fun r3 z3 => ?_⟩
    have w2 : Same G2 (upd (upd G2 p3 (.lst [V.bl (decide (12 = j)), V.bl (decide (13 = j)), V.bl (decide (14 = j)), V.bl (decide (15 = j))])) r3 (.lst ((([V.bl (decide (0 = j)), V.bl (decide (1 = j)), V.bl (decide (2 = j)), V.bl (decide (3 = j))] ++ [V.bl (decide (4 = j)), V.bl (decide (5 = j)), V.bl (decide (6 = j)), V.bl (decide (7 = j))]) ++ [V.bl (decide (8 = j)), V.bl (decide (9 = j)), V.bl (decide (10 = j)), V.bl (decide (11 = j))]) ++ [V.bl (decide (12 = j)), V.bl (decide (13 = j)), V.bl (decide (14 = j)), V.bl (decide (15 = j))]))) := (same_new n3).trans (same_new z3)
    have w := w.trans w2
    have he := he.up w2
    have q : (upd (upd G2 p3 (.lst [V.bl (decide (12 = j)), V.bl (decide (13 = j)), V.bl (decide (14 = j)), V.bl (decide (15 = j))])) r3 (.lst ((([V.bl (decide (0 = j)), V.bl (decide (1 = j)), V.bl (decide (2 = j)), V.bl (decide (3 = j))] ++ [V.bl (decide (4 = j)), V.bl (decide (5 = j)), V.bl (decide (6 = j)), V.bl (decide (7 = j))]) ++ [V.bl (decide (8 = j)), V.bl (decide (9 = j)), V.bl (decide (10 = j)), V.bl (decide (11 = j))]) ++ [V.bl (decide (12 = j)), V.bl (decide (13 = j)), V.bl (decide (14 = j)), V.bl (decide (15 = j))]))) r3 = some (.lst ((([V.bl (decide (0 = j)), V.bl (decide (1 = j)), V.bl (decide (2 = j)), V.bl (decide (3 = j))] ++ [V.bl (decide (4 = j)), V.bl (decide (5 = j)), V.bl (decide (6 = j)), V.bl (decide (7 = j))]) ++ [V.bl (decide (8 = j)), V.bl (decide (9 = j)), V.bl (decide (10 = j)), V.bl (decide (11 = j))]) ++ [V.bl (decide (12 = j)), V.bl (decide (13 = j)), V.bl (decide (14 = j)), V.bl (decide (15 = j))])) := upd_same
    clear w2
    revert w q he
    generalize (upd (upd G2 p3 (.lst [V.bl (decide (12 = j)), V.bl (decide (13 = j)), V.bl (decide (14 = j)), V.bl (decide (15 = j))])) r3 (.lst ((([V.bl (decide (0 = j)), V.bl (decide (1 = j)), V.bl (decide (2 = j)), V.bl (decide (3 = j))] ++ [V.bl (decide (4 = j)), V.bl (decide (5 = j)), V.bl (decide (6 = j)), V.bl (decide (7 = j))]) ++ [V.bl (decide (8 = j)), V.bl (decide (9 = j)), V.bl (decide (10 = j)), V.bl (decide (11 = j))]) ++ [V.bl (decide (12 = j)), V.bl (decide (13 = j)), V.bl (decide (14 = j)), V.bl (decide (15 = j))]))) = G3
    intro w he q
    refine ⟨_, rfl, ?_⟩
    refine isv4 T hj 16 17 18 19 (by decide) (by decide) (by decide) (by decide) he (by rfl) (fun p4 n4 => ?_)
    refine ⟨r3, p4, ((([V.bl (decide (0 = j)), V.bl (decide (1 = j)), V.bl (decide (2 = j)), V.bl (decide (3 = j))] ++ [V.bl (decide (4 = j)), V.bl (decide (5 = j)), V.bl (decide (6 = j)), V.bl (decide (7 = j))]) ++ [V.bl (decide (8 = j)), V.bl (decide (9 = j)), V.bl (decide (10 = j)), V.bl (decide (11 = j))]) ++ [V.bl (decide (12 = j)), V.bl (decide (13 = j)), V.bl (decide (14 = j)), V.bl (decide (15 = j))]), [V.bl (decide (16 = j)), V.bl (decide (17 = j)), V.bl (decide (18 = j)), V.bl (decide (19 = j))], rfl, rfl, same_new n4 _ _ q, upd_same, by show 20 ≤ sizeLine; decide, fun r4 z4 => ?_⟩
    have w2 : Same G3 (upd (upd G3 p4 (.lst [V.bl (decide (16 = j)), V.bl (decide (17 = j)), V.bl (decide (18 = j)), V.bl (decide (19 = j))])) r4 (.lst (((([V.bl (decide (0 = j)), V.bl (decide (1 = j)), V.bl (decide (2 = j)), V.bl (decide (3 = j))] ++ [V.bl (decide (4 = j)), V.bl (decide (5 = j)), V.bl (decide (6 = j)), V.bl (decide (7 = j))]) ++ [V.bl (decide (8 = j)), V.bl (decide (9 = j)), V.bl (decide (10 = j)), V.bl (decide (11 = j))]) ++ [V.bl (decide (12 = j)), V.bl (decide (13 = j)), V.bl (decide (14 = j)), V.bl (decide (15 = j))]) ++ [V.bl (decide (16 = j)), V.bl (decide (17 = j)), V.bl (decide (18 = j)), V.bl (decide (19 = j))]))) := (same_new n4).trans (same_new z4)
    have w := w.trans w2
    have he := he.up w2
    have q : (upd (upd G3 p4 (.lst [V.bl (decide (16 = j)), V.bl (decide (17 = j)), V.bl (decide (18 = j)), V.bl (decide (19 = j))])) r4 (.lst (((([V.bl (decide (0 = j)), V.bl (decide (1 = j)), V.bl (decide (2 = j)), V.bl (decide (3 = j))] ++ [V.bl (decide (4 = j)), V.bl (decide (5 = j)), V.bl (decide (6 = j)), V.bl (decide (7 = j))]) ++ [V.bl (decide (8 = j)), V.bl (decide (9 = j)), V.bl (decide (10 = j)), V.bl (decide (11 = j))]) ++ [V.bl (decide (12 = j)), V.bl (decide (13 = j)), V.bl (decide (14 = j)), V.bl (decide (15 = j))]) ++ [V.bl (decide (16 = j)), V.bl (decide (17 = j)), V.bl (decide (18 = j)), V.bl (decide (19 = j))]))) r4 = some (.lst (((([V.bl (decide (0 = j)), V.bl (decide (1 = j)), V.bl (decide (2 = j)), V.bl (decide (3 = j))] ++ [V.bl (decide (4 = j)), V.bl (decide (5 = j)), V.bl (decide (6 = j)), V.bl (decide (7 = j))]) ++ [V.bl (decide (8 = j)), V.bl (decide (9 = j)), V.bl (decide (10 = j)), V.bl (decide (11 = j))]) ++ [V.bl (decide (12 = j)), V.bl (decide (13 = j)), V.bl (decide (14 = j)), V.bl (decide (15 = j))]) ++ [V.bl (decide (16 = j)), V.bl (decide (17 = j)), V.bl (decide (18 = j)), V.bl (decide (19 = j))])) := upd_same
    clear w2
    revert w q he
    generalize (upd (upd G3 p4 (.lst [V.bl (decide (16 = j)), V.bl (decide (17 = j)), V.bl (decide (18 = j)), V.bl (decide (19 = j))])) r4 (.lst (((([V.bl (decide (0 = j)), V.bl (decide (1 = j)), V.bl (decide (2 = j)), V.bl (decide (3 = j))] ++ [V.bl (decide (4 = j)), V.bl (decide (5 = j)), V.bl (decide (6 = j)), V.bl (decide (7 = j))]) ++ [V.bl (decide (8 = j)), V.bl (decide (9 = j)), V.bl (decide (10 = j)), V.bl (decide (11 = j))]) ++ [V.bl (decide (12 = j)), V.bl (decide (13 = j)), V.bl (decide (14 = j)), V.bl (decide (15 = j))]) ++ [V.bl (decide (16 = j)), V.bl (decide (17 = j)), V.bl (decide (18 = j)), V.bl (decide (19 = j))]))) = G4
    intro w he q
    refine ⟨_, rfl, ?_⟩
    refine isv4 T hj 20 21 22 23 (by decide) (by decide) (by decide) (by decide) he (by rfl) (fun p5 n5 => ?_)
    refine ⟨r4, p5, (((([V.bl (decide (0 = j)), V.bl (decide (1 = j)), V.bl (decide (2 = j)), V.bl (decide (3 = j))] ++ [V.bl (decide (4 = j)), V.bl (decide (5 = j)), V.bl (decide (6 = j)), V.bl (decide (7 = j))]) ++ [V.bl (decide (8 = j)), V.bl (decide (9 = j)), V.bl (decide (10 = j)), V.bl (decide (11 = j))]) ++ [V.bl (decide (12 = j)), V.bl (decide (13 = j)), V.bl (decide (14 = j)), V.bl (decide (15 = j))]) ++ [V.bl (decide (16 = j)), V.bl (decide (17 = j)), V.bl (decide (18 = j)), V.bl (decide (19 = j))]), [V.bl (decide (20 = j)), V.bl (decide (21 = j)), V.bl (decide (22 = j)), V.bl (decide (23 = j))], rfl, rfl, same_new n5 _ _ q, upd_same, by show 24 ≤ sizeLine; decide, fun r5 z5 => ?_⟩
    have w2 : Same G4 (upd (upd G4 p5 (.lst [V.bl (decide (20 = j)), V.bl (decide (21 = j)), V.bl (decide (22 = j)), V.bl (decide (23 = j))])) r5 (.lst ((((([V.bl (decide (0 = j)), V.bl (decide (1 = j)), V.bl (decide (2 = j)), V.bl (decide (3 = j))] ++ [V.bl (decide (4 = j)), V.bl (decide (5 = j)), V.bl (decide (6 = j)), V.bl (decide (7 = j))]) ++ [V.bl (decide (8 = j)), V.bl (decide (9 = j)), V.bl (decide (10 = j)), V.bl (decide (11 = j))]) ++ [V.bl (decide (12 = j)), V.bl (decide (13 = j)), V.bl (decide (14 = j)), V.bl (decide (15 = j))]) ++ [V.bl (decide (16 = j)), V.bl (decide (17 = j)), V.bl (decide (18 = j)), V.bl (decide (19 = j))]) ++ [V.bl (decide (20 = j)), V.bl (decide (21 = j)), V.bl (decide (22 = j)), V.bl (decide (23 = j))]))) := (same_new n5).trans (same_new z5)
    have w := w.trans w2
    have he := he.up w2
    have q : (upd (upd G4 p5 (.lst [V.bl (decide (20 = j)), V.bl (decide (21 = j)), V.bl (decide (22 = j)), V.bl (decide (23 = j))])) r5 (.lst ((((([V.bl (decide (0 = j)), V.bl (decide (1 = j)), V.bl (decide (2 = j)), V.bl (decide (3 = j))] ++ [V.bl (decide (4 = j)), V.bl (decide (5 = j)), V.bl (decide (6 = j)), V.bl (decide (7 = j))]) ++ [V.bl (decide (8 = j)), V.bl (decide (9 = j)), V.bl (decide (10 = j)), V.bl (decide (11 = j))]) ++ [V.bl (decide (12 = j)), V.bl (decide (13 = j)), V.bl (decide (14 = j)), V.bl (decide (15 = j))]) ++ [V.bl (decide (16 = j)), V.bl (decide (17 = j)), V.bl (decide (18 = j)), V.bl (decide (19 = j))]) ++ [V.bl (decide (20 = j)), V.bl (decide (21 = j)), V.bl (decide (22 = j)), V.bl (decide (23 = j))]))) r5 = some (.lst ((((([V.bl (decide (0 = j)), V.bl (decide (1 = j)), V.bl (decide (2 = j)), V.bl (decide (3 = j))] ++ [V.bl (decide (4 = j)), V.bl (decide (5 = j)), V.bl (decide (6 = j)), V.bl (decide (7 = j))]) ++ [V.bl (decide (8 = j)), V.bl (decide (9 = j)), V.bl (decide (10 = j)), V.bl (decide (11 = j))]) ++ [V.bl (decide (12 = j)), V.bl (decide (13 = j)), V.bl (decide (14 = j)), V.bl (decide (15 = j))]) ++ [V.bl (decide (16 = j)), V.bl (decide (17 = j)), V.bl (decide (18 = j)), V.bl (decide (19 = j))]) ++ [V.bl (decide (20 = j)), V.bl (decide (21 = j)), V.bl (decide (22 = j)), V.bl (decide (23 = j))])) := upd_same
    clear w2
    revert w q he
    generalize (upd (upd G4 p5 (.lst [V.bl (decide (20 = j)), V.bl (decide (21 = j)), V.bl (decide (22 = j)), V.bl (decide (23 = j))])) r5 (.lst ((((([V.bl (decide (0 = j)), V.bl (decide (1 = j)), V.bl (decide (2 = j)), V.bl (decide (3 = j))] ++ [V.bl (decide (4 = j)), V.bl (decide (5 = j)), V.bl (decide (6 = j)), V.bl (decide (7 = j))]) ++ [V.bl (decide (8 = j)), V.bl (decide (9 = j)), V.bl (decide (10 = j)), V.bl (decide (11 = j))]) ++ [V.bl (decide (12 = j)), V.bl (decide (13 = j)), V.bl (decide (14 = j)), V.bl (decide (15 = j))]) ++ [V.bl (decide (16 = j)), V.bl (decide (17 = j)), V.bl (decide (18 = j)), V.bl (decide (19 = j))]) ++ [V.bl (decide (20 = j)), V.bl (decide (21 = j)), V.bl (decide (22 = j)), V.bl (decide (23 = j))]))) = G5
    intro w he q
    refine ⟨_, rfl, ?_⟩
    refine isv4 T hj 24 25 26 27 (by decide) (by decide) (by decide) (by decide) he (by rfl) (fun p6 n6 => ?_)
    refine ⟨r5, p6, ((((([V.bl (decide (0 = j)), V.bl (decide (1 = j)), V.bl (decide (2 = j)), V.bl (decide (3 = j))] ++ [V.bl (decide (4 = j)), V.bl (decide (5 = j)), V.bl (decide (6 = j)), V.bl (decide (7 = j))]) ++ [V.bl (decide (8 = j)), V.bl (decide (9 = j)), V.bl (decide (10 = j)), V.bl (decide (11 = j))]) ++ [V.bl (decide (12 = j)), V.bl (decide (13 = j)), V.bl (decide (14 = j)), V.bl (decide (15 = j))]) ++ [V.bl (decide (16 = j)), V.bl (decide (17 = j)), V.bl (decide (18 = j)), V.bl (decide (19 = j))]) ++ [V.bl (decide (20 = j)), V.bl (decide (21 = j)), V.bl (decide (22 = j)), V.bl (decide (23 = j))]), [V.bl (decide (24 = j)), V.bl (decide (25 = j)), V.bl (decide (26 = j)), V.bl (decide (27 = j))], rfl, rfl, same_new n6 _ _ q, upd_same, by show 28 ≤ sizeLine; decide, fun r6 z6 => ?_⟩
    have w2 : Same G5 (upd (upd G5 p6 (.lst [V.bl (decide (24 = j)), V.bl (decide (25 = j)), V.bl (decide (26 = j)), V.bl (decide (27 = j))])) r6 (.lst (((((([V.bl (decide (0 = j)), V.bl (decide (1 = j)), V.bl (decide (2 = j)), V.bl (decide (3 = j))] ++ [V.bl (decide (4 = j)), V.bl (decide (5 = j)), V.bl (decide (6 = j)), V.bl (decide (7 = j))]) ++ [V.bl (decide (8 = j)), V.bl (decide (9 = j)), V.bl (decide (10 = j)), V.bl (decide (11 = j))]) ++ [V.bl (decide (12 = j)), V.bl (decide (13 = j)), V.bl (decide (14 = j)), V.bl (decide (15 = j))]) ++ [V.bl (decide (16 = j)), V.bl (decide (17 = j)), V.bl (decide (18 = j)), V.bl (decide (19 = j))]) ++ [V.bl (decide (20 = j)), V.bl (decide (21 = j)), V.bl (decide (22 = j)), V.bl (decide (23 = j))]) ++ [V.bl (decide (24 = j)), V.bl (decide (25 = j)), V.bl (decide (26 = j)), V.bl (decide (27 = j))]))) := (same_new n6).trans (same_new z6)
    have w := w.trans w2
    have he := he.up w2
    have q : (upd (upd G5 p6 (.lst [V.bl (decide (24 = j)), V.bl (decide (25 = j)), V.bl (decide (26 = j)), V.bl (decide (27 = j))])) r6 (.lst (((((([V.bl (decide (0 = j)), V.bl (decide (1 = j)), V.bl (decide (2 = j)), V.bl (decide (3 = j))] ++ [V.bl (decide (4 = j)), V.bl (decide (5 = j)), V.bl (decide (6 = j)), V.bl (decide (7 = j))]) ++ [V.bl (decide (8 = j)), V.bl (decide (9 = j)), V.bl (decide (10 = j)), V.bl (decide (11 = j))]) ++ [V.bl (decide (12 = j)), V.bl (decide (13 = j)), V.bl (decide (14 = j)), V.bl (decide (15 = j))]) ++ [V.bl (decide (16 = j)), V.bl (decide (17 = j)), V.bl (decide (18 = j)), V.bl (decide (19 = j))]) ++ [V.bl (decide (20 = j)), V.bl (decide (21 = j)), V.bl (decide (22 = j)), V.bl (decide (23 = j))]) ++ [V.bl (decide (24 = j)), V.bl (decide (25 = j)), V.bl (decide (26 = j)), V.bl (decide (27 = j))]))) r6 = some (.lst (((((([V.bl (decide (0 = j)), V.bl (decide (1 = j)), V.bl (decide (2 = j)), V.bl (decide (3 = j))] ++ [V.bl (decide (4 = j)), V.bl (decide (5 = j)), V.bl (decide (6 = j)), V.bl (decide (7 = j))]) ++ [V.bl (decide (8 = j)), V.bl (decide (9 = j)), V.bl (decide (10 = j)), V.bl (decide (11 = j))]) ++ [V.bl (decide (12 = j)), V.bl (decide (13 = j)), V.bl (decide (14 = j)), V.bl (decide (15 = j))]) ++ [V.bl (decide (16 = j)), V.bl (decide (17 = j)), V.bl (decide (18 = j)), V.bl (decide (19 = j))]) ++ [V.bl (decide (20 = j)), V.bl (decide (21 = j)), V.bl (decide (22 = j)), V.bl (decide (23 = j))]) ++ [V.bl (decide (24 = j)), V.bl (decide (25 = j)), V.bl (decide (26 = j)), V.bl (decide (27 = j))])) := upd_same
    clear w2
    revert w q he
    generalize (upd (upd G5 p6 (.lst [V.bl (decide (24 = j)), V.bl (decide (25 = j)), V.bl (decide (26 = j)), V.bl (decide (27 = j))])) r6 (.lst (((((([V.bl (decide (0 = j)), V.bl (decide (1 = j)), V.bl (decide (2 = j)), V.bl (decide (3 = j))] ++ [V.bl (decide (4 = j)), V.bl (decide (5 = j)), V.bl (decide (6 = j)), V.bl (decide (7 = j))]) ++ [V.bl (decide (8 = j)), V.bl (decide (9 = j)), V.bl (decide (10 = j)), V.bl (decide (11 = j))]) ++ [V.bl (decide (12 = j)), V.bl (decide (13 = j)), V.bl (decide (14 = j)), V.bl (decide (15 = j))]) ++ [V.bl (decide (16 = j)), V.bl (decide (17 = j)), V.bl (decide (18 = j)), V.bl (decide (19 = j))]) ++ [V.bl (decide (20 = j)), V.bl (decide (21 = j)), V.bl (decide (22 = j)), V.bl (decide (23 = j))]) ++ [V.bl (decide (24 = j)), V.bl (decide (25 = j)), V.bl (decide (26 = j)), V.bl (decide (27 = j))]))) = G6
    intro w he q
    refine ⟨_, rfl, ?_⟩
    refine isv4 T hj 28 29 30 31 (by decide) (by decide) (by decide) (by decide) he (by rfl) (fun p7 n7 => ?_)
    refine ⟨r6, p7, (((((([V.bl (decide (0 = j)), V.bl (decide (1 = j)), V.bl (decide (2 = j)), V.bl (decide (3 = j))] ++ [V.bl (decide (4 = j)), V.bl (decide (5 = j)), V.bl (decide (6 = j)), V.bl (decide (7 = j))]) ++ [V.bl (decide (8 = j)), V.bl (decide (9 = j)), V.bl (decide (10 = j)), V.bl (decide (11 = j))]) ++ [V.bl (decide (12 = j)), V.bl (decide (13 = j)), V.bl (decide (14 = j)), V.bl (decide (15 = j))]) ++ [V.bl (decide (16 = j)), V.bl (decide (17 = j)), V.bl (decide (18 = j)), V.bl (decide (19 = j))]) ++ [V.bl (decide (20 = j)), V.bl (decide (21 = j)), V.bl (decide (22 = j)), V.bl (decide (23 = j))]) ++ [V.bl (decide (24 = j)), V.bl (decide (25 = j)), V.bl (decide (26 = j)), V.bl (decide (27 = j))]), [V.bl (decide (28 = j)), V.bl (decide (29 = j)), V.bl (decide (30 = j)), V.bl (decide (31 = j))], rfl, rfl, same_new n7 _ _ q, upd_same, by show 32 ≤ sizeLine; decide, fun r7 z7 => ?_⟩
    have w2 : Same G6 (upd (upd G6 p7 (.lst [V.bl (decide (28 = j)), V.bl (decide (29 = j)), V.bl (decide (30 = j)), V.bl (decide (31 = j))])) r7 (.lst ((((((([V.bl (decide (0 = j)), V.bl (decide (1 = j)), V.bl (decide (2 = j)), V.bl (decide (3 = j))] ++ [V.bl (decide (4 = j)), V.bl (decide (5 = j)), V.bl (decide (6 = j)), V.bl (decide (7 = j))]) ++ [V.bl (decide (8 = j)), V.bl (decide (9 = j)), V.bl (decide (10 = j)), V.bl (decide (11 = j))]) ++ [V.bl (decide (12 = j)), V.bl (decide (13 = j)), V.bl (decide (14 = j)), V.bl (decide (15 = j))]) ++ [V.bl (decide (16 = j)), V.bl (decide (17 = j)), V.bl (decide (18 = j)), V.bl (decide (19 = j))]) ++ [V.bl (decide (20 = j)), V.bl (decide (21 = j)), V.bl (decide (22 = j)), V.bl (decide (23 = j))]) ++ [V.bl (decide (24 = j)), V.bl (decide (25 = j)), V.bl (decide (26 = j)), V.bl (decide (27 = j))]) ++ [V.bl (decide (28 = j)), V.bl (decide (29 = j)), V.bl (decide (30 = j)), V.bl (decide (31 = j))]))) := (same_new n7).trans (same_new z7)
    have w := w.trans w2
    have he := he.up w2
    have q : (upd (upd G6 p7 (.lst [V.bl (decide (28 = j)), V.bl (decide (29 = j)), V.bl (decide (30 = j)), V.bl (decide (31 = j))])) r7 (.lst ((((((([V.bl (decide (0 = j)), V.bl (decide (1 = j)), V.bl (decide (2 = j)), V.bl (decide (3 = j))] ++ [V.bl (decide (4 = j)), V.bl (decide (5 = j)), V.bl (decide (6 = j)), V.bl (decide (7 = j))]) ++ [V.bl (decide (8 = j)), V.bl (decide (9 = j)), V.bl (decide (10 = j)), V.bl (decide (11 = j))]) ++ [V.bl (decide (12 = j)), V.bl (decide (13 = j)), V.bl (decide (14 = j)), V.bl (decide (15 = j))]) ++ [V.bl (decide (16 = j)), V.bl (decide (17 = j)), V.bl (decide (18 = j)), V.bl (decide (19 = j))]) ++ [V.bl (decide (20 = j)), V.bl (decide (21 = j)), V.bl (decide (22 = j)), V.bl (decide (23 = j))]) ++ [V.bl (decide (24 = j)), V.bl (decide (25 = j)), V.bl (decide (26 = j)), V.bl (decide (27 = j))]) ++ [V.bl (decide (28 = j)), V.bl (decide (29 = j)), V.bl (decide (30 = j)), V.bl (decide (31 = j))]))) r7 = some (.lst ((((((([V.bl (decide (0 = j)), V.bl (decide (1 = j)), V.bl (decide (2 = j)), V.bl (decide (3 = j))] ++ [V.bl (decide (4 = j)), V.bl (decide (5 = j)), V.bl (decide (6 = j)), V.bl (decide (7 = j))]) ++ [V.bl (decide (8 = j)), V.bl (decide (9 = j)), V.bl (decide (10 = j)), V.bl (decide (11 = j))]) ++ [V.bl (decide (12 = j)), V.bl (decide (13 = j)), V.bl (decide (14 = j)), V.bl (decide (15 = j))]) ++ [V.bl (decide (16 = j)), V.bl (decide (17 = j)), V.bl (decide (18 = j)), V.bl (decide (19 = j))]) ++ [V.bl (decide (20 = j)), V.bl (decide (21 = j)), V.bl (decide (22 = j)), V.bl (decide (23 = j))]) ++ [V.bl (decide (24 = j)), V.bl (decide (25 = j)), V.bl (decide (26 = j)), V.bl (decide (27 = j))]) ++ [V.bl (decide (28 = j)), V.bl (decide (29 = j)), V.bl (decide (30 = j)), V.bl (decide (31 = j))])) := upd_same
    clear w2
    revert w q he
    generalize (upd (upd G6 p7 (.lst [V.bl (decide (28 = j)), V.bl (decide (29 = j)), V.bl (decide (30 = j)), V.bl (decide (31 = j))])) r7 (.lst ((((((([V.bl (decide (0 = j)), V.bl (decide (1 = j)), V.bl (decide (2 = j)), V.bl (decide (3 = j))] ++ [V.bl (decide (4 = j)), V.bl (decide (5 = j)), V.bl (decide (6 = j)), V.bl (decide (7 = j))]) ++ [V.bl (decide (8 = j)), V.bl (decide (9 = j)), V.bl (decide (10 = j)), V.bl (decide (11 = j))]) ++ [V.bl (decide (12 = j)), V.bl (decide (13 = j)), V.bl (decide (14 = j)), V.bl (decide (15 = j))]) ++ [V.bl (decide (16 = j)), V.bl (decide (17 = j)), V.bl (decide (18 = j)), V.bl (decide (19 = j))]) ++ [V.bl (decide (20 = j)), V.bl (decide (21 = j)), V.bl (decide (22 = j)), V.bl (decide (23 = j))]) ++ [V.bl (decide (24 = j)), V.bl (decide (25 = j)), V.bl (decide (26 = j)), V.bl (decide (27 = j))]) ++ [V.bl (decide (28 = j)), V.bl (decide (29 = j)), V.bl (decide (30 = j)), V.bl (decide (31 = j))]))) = G7
    intro w he q
    refine ⟨_, rfl, ?_⟩
    refine isv4 T hj 32 33 34 35 (by decide) (by decide) (by decide) (by decide) he (by rfl) (fun p8 n8 => ?_)
    refine ⟨r7, p8, ((((((([V.bl (decide (0 = j)), V.bl (decide (1 = j)), V.bl (decide (2 = j)), V.bl (decide (3 = j))] ++ [V.bl (decide (4 = j)), V.bl (decide (5 = j)), V.bl (decide (6 = j)), V.bl (decide (7 = j))]) ++ [V.bl (decide (8 = j)), V.bl (decide (9 = j)), V.bl (decide (10 = j)), V.bl (decide (11 = j))]) ++ [V.bl (decide (12 = j)), V.bl (decide (13 = j)), V.bl (decide (14 = j)), V.bl (decide (15 = j))]) ++ [V.bl (decide (16 = j)), V.bl (decide (17 = j)), V.bl (decide (18 = j)), V.bl (decide (19 = j))]) ++ [V.bl (decide (20 = j)), V.bl (decide (21 = j)), V.bl (decide (22 = j)), V.bl (decide (23 = j))]) ++ [V.bl (decide (24 = j)), V.bl (decide (25 = j)), V.bl (decide (26 = j)), V.bl (decide (27 = j))]) ++ [V.bl (decide (28 = j)), V.bl (decide (29 = j)), V.bl (decide (30 = j)), V.bl (decide (31 = j))]), [V.bl (decide (32 = j)), V.bl (decide (33 = j)), V.bl (decide (34 = j)), V.bl (decide (35 = j))], rfl, rfl, same_new n8 _ _ q, upd_same, by show 36 ≤ sizeLine; decide, fun r8 z8 => ?_⟩
    have w2 : Same G7 (upd (upd G7 p8 (.lst [V.bl (decide (32 = j)), V.bl (decide (33 = j)), V.bl (decide (34 = j)), V.bl (decide (35 = j))])) r8 (.lst (((((((([V.bl (decide (0 = j)), V.bl (decide (1 = j)), V.bl (decide (2 = j)), V.bl (decide (3 = j))] ++ [V.bl (decide (4 = j)), V.bl (decide (5 = j)), V.bl (decide (6 = j)), V.bl (decide (7 = j))]) ++ [V.bl (decide (8 = j)), V.bl (decide (9 = j)), V.bl (decide (10 = j)), V.bl (decide (11 = j))]) ++ [V.bl (decide (12 = j)), V.bl (decide (13 = j)), V.bl (decide (14 = j)), V.bl (decide (15 = j))]) ++ [V.bl (decide (16 = j)), V.bl (decide (17 = j)), V.bl (decide (18 = j)), V.bl (decide (19 = j))]) ++ [V.bl (decide (20 = j)), V.bl (decide (21 = j)), V.bl (decide (22 = j)), V.bl (decide (23 = j))]) ++ [V.bl (decide (24 = j)), V.bl (decide (25 = j)), V.bl (decide (26 = j)), V.bl (decide (27 = j))]) ++ [V.bl (decide (28 = j)), V.bl (decide (29 = j)), V.bl (decide (30 = j)), V.bl (decide (31 = j))]) ++ [V.bl (decide (32 = j)), V.bl (decide (33 = j)), V.bl (decide (34 = j)), V.bl (decide (35 = j))]))) := (same_new n8).trans (same_new z8)
    have w := w.trans w2
    have he := he.up w2
    have q : (upd (upd G7 p8 (.lst [V.bl (decide (32 = j)), V.bl (decide (33 = j)), V.bl (decide (34 = j)), V.bl (decide (35 = j))])) r8 (.lst (((((((([V.bl (decide (0 = j)), V.bl (decide (1 = j)), V.bl (decide (2 = j)), V.bl (decide (3 = j))] ++ [V.bl (decide (4 = j)), V.bl (decide (5 = j)), V.bl (decide (6 = j)), V.bl (decide (7 = j))]) ++ [V.bl (decide (8 = j)), V.bl (decide (9 = j)), V.bl (decide (10 = j)), V.bl (decide (11 = j))]) ++ [V.bl (decide (12 = j)), V.bl (decide (13 = j)), V.bl (decide (14 = j)), V.bl (decide (15 = j))]) ++ [V.bl (decide (16 = j)), V.bl (decide (17 = j)), V.bl (decide (18 = j)), V.bl (decide (19 = j))]) ++ [V.bl (decide (20 = j)), V.bl (decide (21 = j)), V.bl (decide (22 = j)), V.bl (decide (23 = j))]) ++ [V.bl (decide (24 = j)), V.bl (decide (25 = j)), V.bl (decide (26 = j)), V.bl (decide (27 = j))]) ++ [V.bl (decide (28 = j)), V.bl (decide (29 = j)), V.bl (decide (30 = j)), V.bl (decide (31 = j))]) ++ [V.bl (decide (32 = j)), V.bl (decide (33 = j)), V.bl (decide (34 = j)), V.bl (decide (35 = j))]))) r8 = some (.lst (((((((([V.bl (decide (0 = j)), V.bl (decide (1 = j)), V.bl (decide (2 = j)), V.bl (decide (3 = j))] ++ [V.bl (decide (4 = j)), V.bl (decide (5 = j)), V.bl (decide (6 = j)), V.bl (decide (7 = j))]) ++ [V.bl (decide (8 = j)), V.bl (decide (9 = j)), V.bl (decide (10 = j)), V.bl (decide (11 = j))]) ++ [V.bl (decide (12 = j)), V.bl (decide (13 = j)), V.bl (decide (14 = j)), V.bl (decide (15 = j))]) ++ [V.bl (decide (16 = j)), V.bl (decide (17 = j)), V.bl (decide (18 = j)), V.bl (decide (19 = j))]) ++ [V.bl (decide (20 = j)), V.bl (decide (21 = j)), V.bl (decide (22 = j)), V.bl (decide (23 = j))]) ++ [V.bl (decide (24 = j)), V.bl (decide (25 = j)), V.bl (decide (26 = j)), V.bl (decide (27 = j))]) ++ [V.bl (decide (28 = j)), V.bl (decide (29 = j)), V.bl (decide (30 = j)), V.bl (decide (31 = j))]) ++ [V.bl (decide (32 = j)), V.bl (decide (33 = j)), V.bl (decide (34 = j)), V.bl (decide (35 = j))])) := upd_same
    clear w2
    revert w q he
    generalize (upd (upd G7 p8 (.lst [V.bl (decide (32 = j)), V.bl (decide (33 = j)), V.bl (decide (34 = j)), V.bl (decide (35 = j))])) r8 (.lst (((((((([V.bl (decide (0 = j)), V.bl (decide (1 = j)), V.bl (decide (2 = j)), V.bl (decide (3 = j))] ++ [V.bl (decide (4 = j)), V.bl (decide (5 = j)), V.bl (decide (6 = j)), V.bl (decide (7 = j))]) ++ [V.bl (decide (8 = j)), V.bl (decide (9 = j)), V.bl (decide (10 = j)), V.bl (decide (11 = j))]) ++ [V.bl (decide (12 = j)), V.bl (decide (13 = j)), V.bl (decide (14 = j)), V.bl (decide (15 = j))]) ++ [V.bl (decide (16 = j)), V.bl (decide (17 = j)), V.bl (decide (18 = j)), V.bl (decide (19 = j))]) ++ [V.bl (decide (20 = j)), V.bl (decide (21 = j)), V.bl (decide (22 = j)), V.bl (decide (23 = j))]) ++ [V.bl (decide (24 = j)), V.bl (decide (25 = j)), V.bl (decide (26 = j)), V.bl (decide (27 = j))]) ++ [V.bl (decide (28 = j)), V.bl (decide (29 = j)), V.bl (decide (30 = j)), V.bl (decide (31 = j))]) ++ [V.bl (decide (32 = j)), V.bl (decide (33 = j)), V.bl (decide (34 = j)), V.bl (decide (35 = j))]))) = G8
    intro w he q
    refine ⟨_, rfl, ?_⟩
    refine isv3 T hj 36 37 38 (by decide) (by decide) (by decide) he (by rfl) (fun p9 n9 => ?_)
    refine ⟨r8, p9, (((((((([V.bl (decide (0 = j)), V.bl (decide (1 = j)), V.bl (decide (2 = j)), V.bl (decide (3 = j))] ++ [V.bl (decide (4 = j)), V.bl (decide (5 = j)), V.bl (decide (6 = j)), V.bl (decide (7 = j))]) ++ [V.bl (decide (8 = j)), V.bl (decide (9 = j)), V.bl (decide (10 = j)), V.bl (decide (11 = j))]) ++ [V.bl (decide (12 = j)), V.bl (decide (13 = j)), V.bl (decide (14 = j)), V.bl (decide (15 = j))]) ++ [V.bl (decide (16 = j)), V.bl (decide (17 = j)), V.bl (decide (18 = j)), V.bl (decide (19 = j))]) ++ [V.bl (decide (20 = j)), V.bl (decide (21 = j)), V.bl (decide (22 = j)), V.bl (decide (23 = j))]) ++ [V.bl (decide (24 = j)), V.bl (decide (25 = j)), V.bl (decide (26 = j)), V.bl (decide (27 = j))]) ++ [V.bl (decide (28 = j)), V.bl (decide (29 = j)), V.bl (decide (30 = j)), V.bl (decide (31 = j))]) ++ [V.bl (decide (32 = j)), V.bl (decide (33 = j)), V.bl (decide (34 = j)), V.bl (decide (35 = j))]), [V.bl (decide (36 = j)), V.bl (decide (37 = j)), V.bl (decide (38 = j))], rfl, rfl, same_new n9 _ _ q, upd_same, by show 39 ≤ sizeLine; decide, fun r9 z9 => ?_⟩
    have w2 : Same G8 (upd (upd G8 p9 (.lst [V.bl (decide (36 = j)), V.bl (decide (37 = j)), V.bl (decide (38 = j))])) r9 (.lst ((((((((([V.bl (decide (0 = j)), V.bl (decide (1 = j)), V.bl (decide (2 = j)), V.bl (decide (3 = j))] ++ [V.bl (decide (4 = j)), V.bl (decide (5 = j)), V.bl (decide (6 = j)), V.bl (decide (7 = j))]) ++ [V.bl (decide (8 = j)), V.bl (decide (9 = j)), V.bl (decide (10 = j)), V.bl (decide (11 = j))]) ++ [V.bl (decide (12 = j)), V.bl (decide (13 = j)), V.bl (decide (14 = j)), V.bl (decide (15 = j))]) ++ [V.bl (decide (16 = j)), V.bl (decide (17 = j)), V.bl (decide (18 = j)), V.bl (decide (19 = j))]) ++ [V.bl (decide (20 = j)), V.bl (decide (21 = j)), V.bl (decide (22 = j)), V.bl (decide (23 = j))]) ++ [V.bl (decide (24 = j)), V.bl (decide (25 = j)), V.bl (decide (26 = j)), V.bl (decide (27 = j))]) ++ [V.bl (decide (28 = j)), V.bl (decide (29 = j)), V.bl (decide (30 = j)), V.bl (decide (31 = j))]) ++ [V.bl (decide (32 = j)), V.bl (decide (33 = j)), V.bl (decide (34 = j)), V.bl (decide (35 = j))]) ++ [V.bl (decide (36 = j)), V.bl (decide (37 = j)), V.bl (decide (38 = j))]))) := (same_new n9).trans (same_new z9)
    have w := w.trans w2
    have he := he.up w2
    have q : (upd (upd G8 p9 (.lst [V.bl (decide (36 = j)), V.bl (decide (37 = j)), V.bl (decide (38 = j))])) r9 (.lst ((((((((([V.bl (decide (0 = j)), V.bl (decide (1 = j)), V.bl (decide (2 = j)), V.bl (decide (3 = j))] ++ [V.bl (decide (4 = j)), V.bl (decide (5 = j)), V.bl (decide (6 = j)), V.bl (decide (7 = j))]) ++ [V.bl (decide (8 = j)), V.bl (decide (9 = j)), V.bl (decide (10 = j)), V.bl (decide (11 = j))]) ++ [V.bl (decide (12 = j)), V.bl (decide (13 = j)), V.bl (decide (14 = j)), V.bl (decide (15 = j))]) ++ [V.bl (decide (16 = j)), V.bl (decide (17 = j)), V.bl (decide (18 = j)), V.bl (decide (19 = j))]) ++ [V.bl (decide (20 = j)), V.bl (decide (21 = j)), V.bl (decide (22 = j)), V.bl (decide (23 = j))]) ++ [V.bl (decide (24 = j)), V.bl (decide (25 = j)), V.bl (decide (26 = j)), V.bl (decide (27 = j))]) ++ [V.bl (decide (28 = j)), V.bl (decide (29 = j)), V.bl (decide (30 = j)), V.bl (decide (31 = j))]) ++ [V.bl (decide (32 = j)), V.bl (decide (33 = j)), V.bl (decide (34 = j)), V.bl (decide (35 = j))]) ++ [V.bl (decide (36 = j)), V.bl (decide (37 = j)), V.bl (decide (38 = j))]))) r9 = some (.lst ((((((((([V.bl (decide (0 = j)), V.bl (decide (1 = j)), V.bl (decide (2 = j)), V.bl (decide (3 = j))] ++ [V.bl (decide (4 = j)), V.bl (decide (5 = j)), V.bl (decide (6 = j)), V.bl (decide (7 = j))]) ++ [V.bl (decide (8 = j)), V.bl (decide (9 = j)), V.bl (decide (10 = j)), V.bl (decide (11 = j))]) ++ [V.bl (decide (12 = j)), V.bl (decide (13 = j)), V.bl (decide (14 = j)), V.bl (decide (15 = j))]) ++ [V.bl (decide (16 = j)), V.bl (decide (17 = j)), V.bl (decide (18 = j)), V.bl (decide (19 = j))]) ++ [V.bl (decide (20 = j)), V.bl (decide (21 = j)), V.bl (decide (22 = j)), V.bl (decide (23 = j))]) ++ [V.bl (decide (24 = j)), V.bl (decide (25 = j)), V.bl (decide (26 = j)), V.bl (decide (27 = j))]) ++ [V.bl (decide (28 = j)), V.bl (decide (29 = j)), V.bl (decide (30 = j)), V.bl (decide (31 = j))]) ++ [V.bl (decide (32 = j)), V.bl (decide (33 = j)), V.bl (decide (34 = j)), V.bl (decide (35 = j))]) ++ [V.bl (decide (36 = j)), V.bl (decide (37 = j)), V.bl (decide (38 = j))])) := upd_same
    clear w2
    revert w q he
    generalize (upd (upd G8 p9 (.lst [V.bl (decide (36 = j)), V.bl (decide (37 = j)), V.bl (decide (38 = j))])) r9 (.lst ((((((((([V.bl (decide (0 = j)), V.bl (decide (1 = j)), V.bl (decide (2 = j)), V.bl (decide (3 = j))] ++ [V.bl (decide (4 = j)), V.bl (decide (5 = j)), V.bl (decide (6 = j)), V.bl (decide (7 = j))]) ++ [V.bl (decide (8 = j)), V.bl (decide (9 = j)), V.bl (decide (10 = j)), V.bl (decide (11 = j))]) ++ [V.bl (decide (12 = j)), V.bl (decide (13 = j)), V.bl (decide (14 = j)), V.bl (decide (15 = j))]) ++ [V.bl (decide (16 = j)), V.bl (decide (17 = j)), V.bl (decide (18 = j)), V.bl (decide (19 = j))]) ++ [V.bl (decide (20 = j)), V.bl (decide (21 = j)), V.bl (decide (22 = j)), V.bl (decide (23 = j))]) ++ [V.bl (decide (24 = j)), V.bl (decide (25 = j)), V.bl (decide (26 = j)), V.bl (decide (27 = j))]) ++ [V.bl (decide (28 = j)), V.bl (decide (29 = j)), V.bl (decide (30 = j)), V.bl (decide (31 = j))]) ++ [V.bl (decide (32 = j)), V.bl (decide (33 = j)), V.bl (decide (34 = j)), V.bl (decide (35 = j))]) ++ [V.bl (decide (36 = j)), V.bl (decide (37 = j)), V.bl (decide (38 = j))]))) = G9
    intro w he q
    refine ⟨_, rfl, k _ _ w (SqL.of q)⟩
end
end My
set_option maxRecDepth 100000
set_option maxHeartbeats 4000000
namespace My
open PySem PySem.Spec PyProof.Rows L2 GL
/-- errors, each of the class that is told -/
def ErAll (c : Nat → Addr) (H : Hp) : List V → List Nat → Prop := Paired fun v j => ∃ a : Addr, v = V.ref a ∧ Er H a (c j)
theorem ErAll.up {c : Nat → Addr} {H H' : Hp} (e : Same H H') : ∀ {vs : List V} {js : List Nat}, ErAll c H vs js → ErAll c H' vs js
  | _, _, .nil => .nil
  | _, _, .cons ⟨a, h1, h2⟩ r => .cons ⟨a, h1, h2.up e⟩ (ErAll.up e r)
theorem ErAll.app {c : Nat → Addr} {H : Hp} : ∀ {vs us : List V} {js ks : List Nat}, ErAll c H vs js → ErAll c H us ks → ErAll c H (vs ++ us) (js ++ ks)
  | _, _, _, _, .nil, h => h
  | _, _, _, _, .cons x r, h => .cons x (ErAll.app r h)
theorem ErAll.length {c : Nat → Addr} {H : Hp} : ∀ {vs : List V} {js : List Nat}, ErAll c H vs js → vs.length = js.length
  | _, _, .nil => rfl
  | _, _, .cons _ r => by rw [List.length_cons, List.length_cons, ErAll.length r]
theorem ErAll.at {c : Nat → Addr} {H : Hp} : ∀ {vs : List V} {js : List Nat} {i : Nat} {v : V}, ErAll c H vs js → vs[i]? = some v → ∃ j a, js[i]? = some j ∧ v = V.ref a ∧ Er H a (c j)
  | _, _, _, _, .nil, h => by simp at h
  | _, _, 0, _, .cons ⟨a, h1, h2⟩ _, h => by
    have e := Option.some.inj h
    subst e
    exact ⟨_, a, rfl, h1, h2⟩
  | _, _, i + 1, _, .cons _ r, h => by
    obtain ⟨j, a, h1, h2⟩ := ErAll.at (i := i) r (by simpa using h)
    exact ⟨j, a, by simpa using h1, h2⟩
theorem er_new0 {H : Hp} {a C : Addr} : Er (upd H a (exo a C none)) a C := ⟨none, upd_same, fun dd z => nomatch z⟩
theorem er_new {H : Hp} {a C dx : Addr} {fs : List (Str × V)} (n : H a = none) (d : upd H a (exo a C none) dx = none) (e : dx ≠ a) :
    Same H (upd (upd (upd H a (exo a C none)) dx (exd dx fs)) a (exo a C (some dx))) ∧ Er (upd (upd (upd H a (exo a C none)) dx (exd dx fs)) a (exo a C (some dx))) a C := by
  rw [upd_ne e] at d
  refine ⟨fun b o z => ?_, some dx, upd_same, fun dd q => ?_⟩
  · have b1 : b ≠ a := ne_of_none z n
    have b2 : b ≠ dx := ne_of_none z d
    rw [upd_ne b1, upd_ne b2, upd_ne b1]
    exact z
  · have q := Option.some.inj q
    subst q
    exact ⟨fs, by rw [upd_ne e, upd_same]⟩
theorem er_new2 {H : Hp} {a C dx : Addr} {fs gs : List (Str × V)} (n : H a = none) (d : upd H a (exo a C none) dx = none) (e : dx ≠ a) :
    Same H (upd (upd (upd (upd H a (exo a C none)) dx (exd dx fs)) a (exo a C (some dx))) dx (exd dx gs)) ∧ Er (upd (upd (upd (upd H a (exo a C none)) dx (exd dx fs)) a (exo a C (some dx))) dx (exd dx gs)) a C := by
  rw [upd_ne e] at d
  refine ⟨fun b o z => ?_, some dx, by rw [upd_ne e.symm, upd_same], fun dd q => ?_⟩
  · have b1 : b ≠ a := ne_of_none z n
    have b2 : b ≠ dx := ne_of_none z d
    rw [upd_ne b2, upd_ne b1, upd_ne b2, upd_ne b1]
    exact z
  · have q := Option.some.inj q
    subst q
    exact ⟨gs, by rw [upd_same]⟩
theorem mkc {j : Nat} {t : TA} {σ : L2.St} {H : Hp} {Q : List V → Hp → Prop} {c : Nat → Addr} (h : ∀ (a : Addr) (H1 : Hp), Same H H1 → Er H1 a (c j) → t σ H1 (fun xs H2 => Q (.ref a :: xs) H2)) : tCons (tMkV (c j) spS tNil) t σ H Q :=
  ⟨Nat.zero_le _, fun a n => ⟨a, rfl, rfl, h a _ (same_new n) er_new0⟩⟩
theorem mk9 {σ : L2.St} {H : Hp} {Q : VK} {c : Nat → Addr} (i0 i1 i2 i3 i4 i5 i6 i7 i8 : Nat) (h : ∀ (p : Addr) (xs : List V) (H' : Hp), Same H H' → ErAll c H' xs [i0, i1, i2, i3, i4, i5, i6, i7, i8] → H' p = none → Q (.ref p) (upd H' p (.lst xs))) : tLst (tCons (tMkV (c i0) spS tNil) (tCons (tMkV (c i1) spS tNil) (tCons (tMkV (c i2) spS tNil) (tCons (tMkV (c i3) spS tNil) (tCons (tMkV (c i4) spS tNil) (tCons (tMkV (c i5) spS tNil) (tCons (tMkV (c i6) spS tNil) (tCons (tMkV (c i7) spS tNil) (tCons (tMkV (c i8) spS tNil) tNil))))))))) σ H Q :=
  mkc (fun a0 G0 w0 e0 => mkc (fun a1 G1 w1 e1 => mkc (fun a2 G2 w2 e2 => mkc (fun a3 G3 w3 e3 => mkc (fun a4 G4 w4 e4 => mkc (fun a5 G5 w5 e5 => mkc (fun a6 G6 w6 e6 => mkc (fun a7 G7 w7 e7 => mkc (fun a8 G8 w8 e8 => ⟨by show 9 ≤ sizeLine; decide, fun p n => h p _ _ ((((((((w0.trans w1).trans w2).trans w3).trans w4).trans w5).trans w6).trans w7).trans w8) (.cons ⟨a0, rfl, ((((((((e0.up w1).up w2).up w3).up w4).up w5).up w6).up w7).up w8)⟩ (.cons ⟨a1, rfl, (((((((e1.up w2).up w3).up w4).up w5).up w6).up w7).up w8)⟩ (.cons ⟨a2, rfl, ((((((e2.up w3).up w4).up w5).up w6).up w7).up w8)⟩ (.cons ⟨a3, rfl, (((((e3.up w4).up w5).up w6).up w7).up w8)⟩ (.cons ⟨a4, rfl, ((((e4.up w5).up w6).up w7).up w8)⟩ (.cons ⟨a5, rfl, (((e5.up w6).up w7).up w8)⟩ (.cons ⟨a6, rfl, ((e6.up w7).up w8)⟩ (.cons ⟨a7, rfl, (e7.up w8)⟩ (.cons ⟨a8, rfl, e8⟩ .nil))))))))) n⟩)))))))))
theorem if_nat {i : Nat} {z : Int} {A B : Prop} (h1 : (i : Int) = z → A) (h2 : (i : Int) ≠ z → B) : if (decide (V.int (i : Int) = V.int z)) = true then A else B := by
  by_cases e : (i : Int) = z
  · rw [if_pos (decide_eq_true (by rw [e]))]
    exact h1 e
  · rw [if_neg (by rw [decide_eq_true_eq]; intro y; exact e (by injection y))]
    exact h2 e
theorem look1 {n : Str} {v : V} : List.lookup n [(n, v)] = some v := by simp [List.lookup]
theorem made1 {C : Addr} {n : Str} {σ : L2.St} {H : Hp} {D : Ends} {v : V} (hv : σ[1]? = some (some v)) (k : ∀ (t a : Addr) (H' : Hp), Same H H' → H' t = some (.tup [v, .ref a]) → Er H' a C → D.rt (.ref t) H') :
    tRet (tTup (tCons (tXv C n (tMkV C (spF C n) (tCons (tVar 1) tNil))) (tCons (tMkV C (spF C n) (tCons (tVar 1) tNil)) tNil))) D σ H := by
  refine ⟨v, hv, by show 1 ≤ 1000; decide, fun a1 n1 => ⟨a1, v, rfl, upd_same, fun x1 d1 e1 => ⟨rfl, a1, x1, _, v, rfl, upd_same, by rw [upd_ne e1, upd_same], look1, ?_⟩⟩⟩
  obtain ⟨w1, _⟩ := er_new (fs := [(n, v)]) n1 d1 e1
  refine ⟨v, hv, by show 1 ≤ 1000; decide, fun a2 n2 => ⟨a2, v, rfl, upd_same, fun x2 d2 e2 => ⟨rfl, by show 2 ≤ sizeLine; decide, fun t nt => ?_⟩⟩⟩
  obtain ⟨w2, er2⟩ := er_new (fs := [(n, v)]) n2 d2 e2
  exact k _ _ _ ((w1.trans w2).trans (same_new nt)) upd_same (er2.up (same_new nt))
theorem one_other : ¬ (("one" : Str) = "other") := by decide +kernel
theorem look_one {v y : V} : List.lookup ("one" : Str) [(("other" : Str), y), ("one", v)] = some v := by
  rw [lookup_put, if_neg one_other, lookup_put, if_pos rfl]
theorem other_look {v y : V} : List.lookup ("other" : Str) [(("other" : Str), y), ("one", v)] = some y := by
  rw [lookup_put, if_pos rfl]
def plainIx : List Nat := [21, 20, 18, 28, 16, 25, 31, 30, 23, 34, 32, 36, 14, 12, 10, 19, 8, 35, 37, 29, 7, 22, 26, 5, 6, 9, 13]
def madeIx : List Nat := [1, 0, 38, 33, 15, 27, 2, 24, 11, 3, 17, 4]
def spPlain (K : PySem.W.Frag) (c : Nat → Addr) : Sp := fun vs H Q _ => vs = [] ∧ ∀ (l : Addr) (xs : List V) (H' : Hp), Same H H' → H' l = some (.lst xs) → ErAll c H' xs plainIx → Q (.ref l) H'
def spMade (c : Nat → Addr) : Sp := fun vs H Q _ => ∃ (i j : Nat) (v : V), vs = [.int (i : Nat), v] ∧ i < 12 ∧ madeIx[i]? = some j ∧ ∀ (t a : Addr) (H' : Hp), Same H H' → H' t = some (.tup [v, .ref a]) → Er H' a (c j) → Q (.ref t) H'
section
variable {P : Program} {w : World} {K : PySem.W.Frag} {mg : Str → Option Value} {base : Heap} {S : Addr} {c : Nat → Addr}
theorem scPlain : FnScope ["found"] [] (defScope sPlain) := ⟨rfl, rfl, rfl, by decide +kernel, rfl, by decide +kernel, by decide +kernel⟩
theorem ok_plain {f fS : Addr} {fd dS : FuncData} (F : Fun K "_law_plain" "_law_plain" sPlain f fd) (N : Nm mg) (T : ET K mg S c) (GS : FnOk P w K mg base CX0 1 fS dS ["self"] spS) (bS : Binds K dS ["self"] [])
    (tS : PySem.W.typeIn K (.ref fS) = some (.type "function")) (hI : ∀ j ∈ plainIx, PySem.W.findIn K (.ref (c j)) "__init__" = some (some (.ref fS))) : FnOk P w K mg base CX0 3 f fd [] (spPlain K c) := by
  refine F.ok scPlain (fun vs H Q E h => ?_) (fun cdv A outer s H vs Q E hr h => ?_)
  · obtain ⟨rfl, _⟩ := h
    rfl
  · obtain ⟨rfl, k⟩ := h
    refine ⟨_, pss_cons (ps_set (i := 0) scPlain.nd rfl (.inl rfl) (pe_lst (pa_cons (pe_mkV0 (T.ex 21 (by decide)).oex (hI 21 (by decide)) tS GS hr bS rfl T.m21) (pa_cons (pe_mkV0 (T.ex 20 (by decide)).oex (hI 20 (by decide)) tS GS hr bS rfl T.m20) (pa_cons (pe_mkV0 (T.ex 18 (by decide)).oex (hI 18 (by decide)) tS GS hr bS rfl T.m18) (pa_cons (pe_mkV0 (T.ex 28 (by decide)).oex (hI 28 (by decide)) tS GS hr bS rfl T.m28) (pa_cons (pe_mkV0 (T.ex 16 (by decide)).oex (hI 16 (by decide)) tS GS hr bS rfl T.m16) (pa_cons (pe_mkV0 (T.ex 25 (by decide)).oex (hI 25 (by decide)) tS GS hr bS rfl T.m25) (pa_cons (pe_mkV0 (T.ex 31 (by decide)).oex (hI 31 (by decide)) tS GS hr bS rfl T.m31) (pa_cons (pe_mkV0 (T.ex 30 (by decide)).oex (hI 30 (by decide)) tS GS hr bS rfl T.m30) (pa_cons (pe_mkV0 (T.ex 23 (by decide)).oex (hI 23 (by decide)) tS GS hr bS rfl T.m23) pa_nil)))))))))))
      (pss_cons (ps_set (i := 0) scPlain.nd rfl (.inl rfl) (pe_op op_cat (pv 0) (pe_lst (pa_cons (pe_mkV0 (T.ex 34 (by decide)).oex (hI 34 (by decide)) tS GS hr bS rfl T.m34) (pa_cons (pe_mkV0 (T.ex 32 (by decide)).oex (hI 32 (by decide)) tS GS hr bS rfl T.m32) (pa_cons (pe_mkV0 (T.ex 36 (by decide)).oex (hI 36 (by decide)) tS GS hr bS rfl T.m36) (pa_cons (pe_mkV0 (T.ex 14 (by decide)).oex (hI 14 (by decide)) tS GS hr bS rfl T.m14) (pa_cons (pe_mkV0 (T.ex 12 (by decide)).oex (hI 12 (by decide)) tS GS hr bS rfl T.m12) (pa_cons (pe_mkV0 (T.ex 10 (by decide)).oex (hI 10 (by decide)) tS GS hr bS rfl T.m10) (pa_cons (pe_mkV0 (T.ex 19 (by decide)).oex (hI 19 (by decide)) tS GS hr bS rfl T.m19) (pa_cons (pe_mkV0 (T.ex 8 (by decide)).oex (hI 8 (by decide)) tS GS hr bS rfl T.m8) (pa_cons (pe_mkV0 (T.ex 35 (by decide)).oex (hI 35 (by decide)) tS GS hr bS rfl T.m35) pa_nil))))))))))))
      (pss_one (ps_ret (pe_op op_cat (pv 0) (pe_lst (pa_cons (pe_mkV0 (T.ex 37 (by decide)).oex (hI 37 (by decide)) tS GS hr bS rfl T.m37) (pa_cons (pe_mkV0 (T.ex 29 (by decide)).oex (hI 29 (by decide)) tS GS hr bS rfl T.m29) (pa_cons (pe_mkV0 (T.ex 7 (by decide)).oex (hI 7 (by decide)) tS GS hr bS rfl T.m7) (pa_cons (pe_mkV0 (T.ex 22 (by decide)).oex (hI 22 (by decide)) tS GS hr bS rfl T.m22) (pa_cons (pe_mkV0 (T.ex 26 (by decide)).oex (hI 26 (by decide)) tS GS hr bS rfl T.m26) (pa_cons (pe_mkV0 (T.ex 5 (by decide)).oex (hI 5 (by decide)) tS GS hr bS rfl T.m5) (pa_cons (pe_mkV0 (T.ex 6 (by decide)).oex (hI 6 (by decide)) tS GS hr bS rfl T.m6) (pa_cons (pe_mkV0 (T.ex 9 (by decide)).oex (hI 9 (by decide)) tS GS hr bS rfl T.m9) (pa_cons (pe_mkV0 (T.ex 13 (by decide)).oex (hI 13 (by decide)) tS GS hr bS rfl T.m13) pa_nil)))))))))))))), ?_⟩
    unfold tSeq tAsg
    refine mk9 21 20 18 28 16 25 31 30 23 (fun p0 xs0 H0 w0 e0 n0 => ?_)
    have l0 : xs0.length = 9 := e0.length
    refine ⟨_, rfl, ?_⟩
    refine mk9 34 32 36 14 12 10 19 8 35 (fun p1 xs1 H1 w1 e1 n1 => ?_)
    have l1 : xs1.length = 9 := e1.length
    have s0 := same_new (o := .lst xs0) n0
    refine ⟨p0, p1, xs0, xs1, rfl, rfl, same_new n1 _ _ (w1 _ _ upd_same), upd_same, by rw [l0, l1]; decide, fun r1 z1 => ?_⟩
    have s1 : Same H1 (upd (upd H1 p1 (.lst xs1)) r1 (.lst (xs0 ++ xs1))) := (same_new n1).trans (same_new z1)
    have e01 : ErAll c (upd (upd H1 p1 (.lst xs1)) r1 (.lst (xs0 ++ xs1))) (xs0 ++ xs1) ([21, 20, 18, 28, 16, 25, 31, 30, 23] ++ [34, 32, 36, 14, 12, 10, 19, 8, 35]) := (((e0.up s0).up w1).app e1).up s1
    have w01 : Same H (upd (upd H1 p1 (.lst xs1)) r1 (.lst (xs0 ++ xs1))) := (w0.trans (s0.trans w1)).trans s1
    have q1 : (upd (upd H1 p1 (.lst xs1)) r1 (.lst (xs0 ++ xs1))) r1 = some (.lst (xs0 ++ xs1)) := upd_same
    revert e01 w01 q1
    generalize upd (upd H1 p1 (.lst xs1)) r1 (.lst (xs0 ++ xs1)) = H2
    intro e01 w01 q1
    refine ⟨_, rfl, ?_⟩
    refine mk9 37 29 7 22 26 5 6 9 13 (fun p3 xs3 H3 w3 e3 n3 => ?_)
    have l3 : xs3.length = 9 := e3.length
    refine ⟨r1, p3, xs0 ++ xs1, xs3, rfl, rfl, same_new n3 _ _ (w3 _ _ q1), upd_same, by rw [List.length_append, l0, l1, l3]; decide, fun r z => ?_⟩
    have s3 : Same H3 (upd (upd H3 p3 (.lst xs3)) r (.lst (xs0 ++ xs1 ++ xs3))) := (same_new n3).trans (same_new z)
    have e03 : ErAll c (upd (upd H3 p3 (.lst xs3)) r (.lst (xs0 ++ xs1 ++ xs3))) (xs0 ++ xs1 ++ xs3) plainIx := ((e01.up w3).app e3).up s3
    exact k _ _ _ ((w01.trans w3).trans s3) upd_same e03
theorem scMade : FnScope ["which", "thing"] ["which", "thing"] (defScope sMade) := ⟨rfl, rfl, rfl, by decide +kernel, rfl, by decide +kernel, by decide +kernel⟩
theorem ok_made {f : Addr} {fd : FuncData} (F : Fun K "_law_made" "_law_made" sMade f fd) (N : Nm mg) (T : ET K mg S c)
    {fBadBoxes : Addr} {dBadBoxes : FuncData} (GBadBoxes : FnOk P w K mg base CX0 1 fBadBoxes dBadBoxes ["self", "part"] (spF (c 1) "part")) (bBadBoxes : Binds K dBadBoxes ["self", "part"] []) (iBadBoxes : PySem.W.findIn K (.ref (c 1)) "__init__" = some (some (.ref fBadBoxes))) (tBadBoxes : PySem.W.typeIn K (.ref fBadBoxes) = some (.type "function")) (oBadBoxes : PySem.W.findIn K (.ref (c 1)) "part" = some none)
    {fBadBook : Addr} {dBadBook : FuncData} (GBadBook : FnOk P w K mg base CX0 1 fBadBook dBadBook ["self", "index"] (spF (c 0) "index")) (bBadBook : Binds K dBadBook ["self", "index"] []) (iBadBook : PySem.W.findIn K (.ref (c 0)) "__init__" = some (some (.ref fBadBook))) (tBadBook : PySem.W.typeIn K (.ref fBadBook) = some (.type "function")) (oBadBook : PySem.W.findIn K (.ref (c 0)) "index" = some none)
    {fTooMany : Addr} {dTooMany : FuncData} (GTooMany : FnOk P w K mg base CX0 1 fTooMany dTooMany ["self", "most"] (spF (c 38) "most")) (bTooMany : Binds K dTooMany ["self", "most"] []) (iTooMany : PySem.W.findIn K (.ref (c 38)) "__init__" = some (some (.ref fTooMany))) (tTooMany : PySem.W.typeIn K (.ref fTooMany) = some (.type "function")) (oTooMany : PySem.W.findIn K (.ref (c 38)) "most" = some none)
    {fNotFree : Addr} {dNotFree : FuncData} (GNotFree : FnOk P w K mg base CX0 1 fNotFree dNotFree ["self", "number"] (spF (c 33) "number")) (bNotFree : Binds K dNotFree ["self", "number"] []) (iNotFree : PySem.W.findIn K (.ref (c 33)) "__init__" = some (some (.ref fNotFree))) (tNotFree : PySem.W.typeIn K (.ref fNotFree) = some (.type "function")) (oNotFree : PySem.W.findIn K (.ref (c 33)) "number" = some none)
    {fNoLists : Addr} {dNoLists : FuncData} (GNoLists : FnOk P w K mg base CX0 1 fNoLists dNoLists ["self", "index"] (spF (c 15) "index")) (bNoLists : Binds K dNoLists ["self", "index"] []) (iNoLists : PySem.W.findIn K (.ref (c 15)) "__init__" = some (some (.ref fNoLists))) (tNoLists : PySem.W.typeIn K (.ref fNoLists) = some (.type "function")) (oNoLists : PySem.W.findIn K (.ref (c 15)) "index" = some none)
    {fNoStep : Addr} {dNoStep : FuncData} (GNoStep : FnOk P w K mg base CX0 1 fNoStep dNoStep ["self", "number"] (spF (c 27) "number")) (bNoStep : Binds K dNoStep ["self", "number"] []) (iNoStep : PySem.W.findIn K (.ref (c 27)) "__init__" = some (some (.ref fNoStep))) (tNoStep : PySem.W.typeIn K (.ref fNoStep) = some (.type "function")) (oNoStep : PySem.W.findIn K (.ref (c 27)) "number" = some none)
    {fBadScene : Addr} {dBadScene : FuncData} (GBadScene : FnOk P w K mg base CX0 1 fBadScene dBadScene ["self", "part"] (spF (c 2) "part")) (bBadScene : Binds K dBadScene ["self", "part"] []) (iBadScene : PySem.W.findIn K (.ref (c 2)) "__init__" = some (some (.ref fBadScene))) (tBadScene : PySem.W.typeIn K (.ref fBadScene) = some (.type "function")) (oBadScene : PySem.W.findIn K (.ref (c 2)) "part" = some none)
    {fNoScene : Addr} {dNoScene : FuncData} (GNoScene : FnOk P w K mg base CX0 1 fNoScene dNoScene ["self", "why"] (spF (c 24) "why")) (bNoScene : Binds K dNoScene ["self", "why"] []) (iNoScene : PySem.W.findIn K (.ref (c 24)) "__init__" = some (some (.ref fNoScene))) (tNoScene : PySem.W.typeIn K (.ref fNoScene) = some (.type "function")) (oNoScene : PySem.W.findIn K (.ref (c 24)) "why" = some none)
    {fNoFilm : Addr} {dNoFilm : FuncData} (GNoFilm : FnOk P w K mg base CX0 1 fNoFilm dNoFilm ["self", "index"] (spF (c 11) "index")) (bNoFilm : Binds K dNoFilm ["self", "index"] []) (iNoFilm : PySem.W.findIn K (.ref (c 11)) "__init__" = some (some (.ref fNoFilm))) (tNoFilm : PySem.W.typeIn K (.ref fNoFilm) = some (.type "function")) (oNoFilm : PySem.W.findIn K (.ref (c 11)) "index" = some none)
    {fBadText : Addr} {dBadText : FuncData} (GBadText : FnOk P w K mg base CX0 1 fBadText dBadText ["self", "line"] (spF (c 3) "line")) (bBadText : Binds K dBadText ["self", "line"] []) (iBadText : PySem.W.findIn K (.ref (c 3)) "__init__" = some (some (.ref fBadText))) (tBadText : PySem.W.typeIn K (.ref fBadText) = some (.type "function")) (oBadText : PySem.W.findIn K (.ref (c 3)) "line" = some none)
    {fNoName : Addr} {dNoName : FuncData} (GNoName : FnOk P w K mg base CX0 1 fNoName dNoName ["self", "name"] (spF (c 17) "name")) (bNoName : Binds K dNoName ["self", "name"] []) (iNoName : PySem.W.findIn K (.ref (c 17)) "__init__" = some (some (.ref fNoName))) (tNoName : PySem.W.typeIn K (.ref fNoName) = some (.type "function")) (oNoName : PySem.W.findIn K (.ref (c 17)) "name" = some none)
    {fBarred : Addr} {dBarred : FuncData} (GBarred : FnOk P w K mg base CX0 1 fBarred dBarred ["self", "one", "other"] (spF2 (c 4))) (bBarred : Binds K dBarred ["self", "one", "other"] []) (iBarred : PySem.W.findIn K (.ref (c 4)) "__init__" = some (some (.ref fBarred))) (tBarred : PySem.W.typeIn K (.ref fBarred) = some (.type "function")) (oBarred : PySem.W.findIn K (.ref (c 4)) "one" = some none) : FnOk P w K mg base CX0 3 f fd ["which", "thing"] (spMade c) := by
  refine F.ok scMade (fun vs H Q E h => ?_) (fun cdv A outer s H vs Q E hr h => ?_)
  · obtain ⟨i, j, v, rfl, _⟩ := h
    rfl
  · obtain ⟨i, j, v, rfl, hi, hj, k⟩ := h
    refine ⟨_, pss_cons (ps_if (pt_cmpR op_eq (pv 0) pe_int (nomark _)) (pss_one (ps_ret (pe_tup (pa_cons (pe_xv (T.ex 1 (by decide)).xf oBadBoxes (pe_mkV (T.ex 1 (by decide)).oex iBadBoxes tBadBoxes GBadBoxes hr bBadBoxes rfl T.m1 (pa_cons (pv 1) pa_nil))) (pa_cons (pe_mkV (T.ex 1 (by decide)).oex iBadBoxes tBadBoxes GBadBoxes hr bBadBoxes rfl T.m1 (pa_cons (pv 1) pa_nil)) pa_nil))))) pss_nil)
      (pss_cons (ps_if (pt_cmpR op_eq (pv 0) pe_int (nomark _)) (pss_one (ps_ret (pe_tup (pa_cons (pe_xv (T.ex 0 (by decide)).xf oBadBook (pe_mkV (T.ex 0 (by decide)).oex iBadBook tBadBook GBadBook hr bBadBook rfl T.m0 (pa_cons (pv 1) pa_nil))) (pa_cons (pe_mkV (T.ex 0 (by decide)).oex iBadBook tBadBook GBadBook hr bBadBook rfl T.m0 (pa_cons (pv 1) pa_nil)) pa_nil))))) pss_nil)
      (pss_cons (ps_if (pt_cmpR op_eq (pv 0) pe_int (nomark _)) (pss_one (ps_ret (pe_tup (pa_cons (pe_xv (T.ex 38 (by decide)).xf oTooMany (pe_mkV (T.ex 38 (by decide)).oex iTooMany tTooMany GTooMany hr bTooMany rfl T.m38 (pa_cons (pv 1) pa_nil))) (pa_cons (pe_mkV (T.ex 38 (by decide)).oex iTooMany tTooMany GTooMany hr bTooMany rfl T.m38 (pa_cons (pv 1) pa_nil)) pa_nil))))) pss_nil)
      (pss_cons (ps_if (pt_cmpR op_eq (pv 0) pe_int (nomark _)) (pss_one (ps_ret (pe_tup (pa_cons (pe_xv (T.ex 33 (by decide)).xf oNotFree (pe_mkV (T.ex 33 (by decide)).oex iNotFree tNotFree GNotFree hr bNotFree rfl T.m33 (pa_cons (pv 1) pa_nil))) (pa_cons (pe_mkV (T.ex 33 (by decide)).oex iNotFree tNotFree GNotFree hr bNotFree rfl T.m33 (pa_cons (pv 1) pa_nil)) pa_nil))))) pss_nil)
      (pss_cons (ps_if (pt_cmpR op_eq (pv 0) pe_int (nomark _)) (pss_one (ps_ret (pe_tup (pa_cons (pe_xv (T.ex 15 (by decide)).xf oNoLists (pe_mkV (T.ex 15 (by decide)).oex iNoLists tNoLists GNoLists hr bNoLists rfl T.m15 (pa_cons (pv 1) pa_nil))) (pa_cons (pe_mkV (T.ex 15 (by decide)).oex iNoLists tNoLists GNoLists hr bNoLists rfl T.m15 (pa_cons (pv 1) pa_nil)) pa_nil))))) pss_nil)
      (pss_cons (ps_if (pt_cmpR op_eq (pv 0) pe_int (nomark _)) (pss_one (ps_ret (pe_tup (pa_cons (pe_xv (T.ex 27 (by decide)).xf oNoStep (pe_mkV (T.ex 27 (by decide)).oex iNoStep tNoStep GNoStep hr bNoStep rfl T.m27 (pa_cons (pv 1) pa_nil))) (pa_cons (pe_mkV (T.ex 27 (by decide)).oex iNoStep tNoStep GNoStep hr bNoStep rfl T.m27 (pa_cons (pv 1) pa_nil)) pa_nil))))) pss_nil)
      (pss_cons (ps_if (pt_cmpR op_eq (pv 0) pe_int (nomark _)) (pss_one (ps_ret (pe_tup (pa_cons (pe_xv (T.ex 2 (by decide)).xf oBadScene (pe_mkV (T.ex 2 (by decide)).oex iBadScene tBadScene GBadScene hr bBadScene rfl T.m2 (pa_cons (pv 1) pa_nil))) (pa_cons (pe_mkV (T.ex 2 (by decide)).oex iBadScene tBadScene GBadScene hr bBadScene rfl T.m2 (pa_cons (pv 1) pa_nil)) pa_nil))))) pss_nil)
      (pss_cons (ps_if (pt_cmpR op_eq (pv 0) pe_int (nomark _)) (pss_one (ps_ret (pe_tup (pa_cons (pe_xv (T.ex 24 (by decide)).xf oNoScene (pe_mkV (T.ex 24 (by decide)).oex iNoScene tNoScene GNoScene hr bNoScene rfl T.m24 (pa_cons (pv 1) pa_nil))) (pa_cons (pe_mkV (T.ex 24 (by decide)).oex iNoScene tNoScene GNoScene hr bNoScene rfl T.m24 (pa_cons (pv 1) pa_nil)) pa_nil))))) pss_nil)
      (pss_cons (ps_if (pt_cmpR op_eq (pv 0) pe_int (nomark _)) (pss_one (ps_ret (pe_tup (pa_cons (pe_xv (T.ex 11 (by decide)).xf oNoFilm (pe_mkV (T.ex 11 (by decide)).oex iNoFilm tNoFilm GNoFilm hr bNoFilm rfl T.m11 (pa_cons (pv 1) pa_nil))) (pa_cons (pe_mkV (T.ex 11 (by decide)).oex iNoFilm tNoFilm GNoFilm hr bNoFilm rfl T.m11 (pa_cons (pv 1) pa_nil)) pa_nil))))) pss_nil)
      (pss_cons (ps_if (pt_cmpR op_eq (pv 0) pe_int (nomark _)) (pss_one (ps_ret (pe_tup (pa_cons (pe_xv (T.ex 3 (by decide)).xf oBadText (pe_mkV (T.ex 3 (by decide)).oex iBadText tBadText GBadText hr bBadText rfl T.m3 (pa_cons (pv 1) pa_nil))) (pa_cons (pe_mkV (T.ex 3 (by decide)).oex iBadText tBadText GBadText hr bBadText rfl T.m3 (pa_cons (pv 1) pa_nil)) pa_nil))))) pss_nil)
      (pss_cons (ps_if (pt_cmpR op_eq (pv 0) pe_int (nomark _)) (pss_one (ps_ret (pe_tup (pa_cons (pe_xv (T.ex 17 (by decide)).xf oNoName (pe_mkV (T.ex 17 (by decide)).oex iNoName tNoName GNoName hr bNoName rfl T.m17 (pa_cons (pv 1) pa_nil))) (pa_cons (pe_mkV (T.ex 17 (by decide)).oex iNoName tNoName GNoName hr bNoName rfl T.m17 (pa_cons (pv 1) pa_nil)) pa_nil))))) pss_nil)
      (pss_one (ps_ret (pe_tup (pa_cons (pe_xv (T.ex 4 (by decide)).xf oBarred (pe_mkV (T.ex 4 (by decide)).oex iBarred tBarred GBarred hr bBarred rfl T.m4 (pa_cons (pv 1) (pa_cons pe_int pa_nil)))) (pa_cons (pe_mkV (T.ex 4 (by decide)).oex iBarred tBarred GBarred hr bBarred rfl T.m4 (pa_cons pe_int (pa_cons (pv 1) pa_nil))) pa_nil))))))))))))))), ?_⟩
    refine ⟨_, rfl, rfl, _, rfl, if_nat (fun h => ?_) (fun n0 => ?_)⟩
    · obtain rfl : i = 0 := by omega
      have hj := Option.some.inj (show some 1 = some j from hj)
      subst hj
      exact made1 (by rfl) fun t a H' w q e => k t a H' w q e
    refine ⟨_, rfl, rfl, _, rfl, if_nat (fun h => ?_) (fun n1 => ?_)⟩
    · obtain rfl : i = 1 := by omega
      have hj := Option.some.inj (show some 0 = some j from hj)
      subst hj
      exact made1 (by rfl) fun t a H' w q e => k t a H' w q e
    refine ⟨_, rfl, rfl, _, rfl, if_nat (fun h => ?_) (fun n2 => ?_)⟩
    · obtain rfl : i = 2 := by omega
      have hj := Option.some.inj (show some 38 = some j from hj)
      subst hj
      exact made1 (by rfl) fun t a H' w q e => k t a H' w q e
    refine ⟨_, rfl, rfl, _, rfl, if_nat (fun h => ?_) (fun n3 => ?_)⟩
    · obtain rfl : i = 3 := by omega
      have hj := Option.some.inj (show some 33 = some j from hj)
      subst hj
      exact made1 (by rfl) fun t a H' w q e => k t a H' w q e
    refine ⟨_, rfl, rfl, _, rfl, if_nat (fun h => ?_) (fun n4 => ?_)⟩
    · obtain rfl : i = 4 := by omega
      have hj := Option.some.inj (show some 15 = some j from hj)
      subst hj
      exact made1 (by rfl) fun t a H' w q e => k t a H' w q e
    refine ⟨_, rfl, rfl, _, rfl, if_nat (fun h => ?_) (fun n5 => ?_)⟩
    · obtain rfl : i = 5 := by omega
      have hj := Option.some.inj (show some 27 = some j from hj)
      subst hj
      exact made1 (by rfl) fun t a H' w q e => k t a H' w q e
    refine ⟨_, rfl, rfl, _, rfl, if_nat (fun h => ?_) (fun n6 => ?_)⟩
    · obtain rfl : i = 6 := by omega
      have hj := Option.some.inj (show some 2 = some j from hj)
      subst hj
      exact made1 (by rfl) fun t a H' w q e => k t a H' w q e
    refine ⟨_, rfl, rfl, _, rfl, if_nat (fun h => ?_) (fun n7 => ?_)⟩
    · obtain rfl : i = 7 := by omega
      have hj := Option.some.inj (show some 24 = some j from hj)
      subst hj
      exact made1 (by rfl) fun t a H' w q e => k t a H' w q e
    refine ⟨_, rfl, rfl, _, rfl, if_nat (fun h => ?_) (fun n8 => ?_)⟩
    · obtain rfl : i = 8 := by omega
      have hj := Option.some.inj (show some 11 = some j from hj)
      subst hj
      exact made1 (by rfl) fun t a H' w q e => k t a H' w q e
    refine ⟨_, rfl, rfl, _, rfl, if_nat (fun h => ?_) (fun n9 => ?_)⟩
    · obtain rfl : i = 9 := by omega
      have hj := Option.some.inj (show some 3 = some j from hj)
      subst hj
      exact made1 (by rfl) fun t a H' w q e => k t a H' w q e
    refine ⟨_, rfl, rfl, _, rfl, if_nat (fun h => ?_) (fun n10 => ?_)⟩
    · obtain rfl : i = 10 := by omega
      have hj := Option.some.inj (show some 17 = some j from hj)
      subst hj
      exact made1 (by rfl) fun t a H' w q e => k t a H' w q e
    obtain rfl : i = 11 := by omega
    have hj := Option.some.inj (show some 4 = some j from hj)
    subst hj
    refine ⟨_, rfl, by show 2 ≤ 1000; decide, fun a1 n1 => ⟨a1, v, _, rfl, upd_same, fun x1 d1 e1 => ⟨rfl, a1, x1, _, v, rfl, by rw [upd_ne e1.symm, upd_same], upd_same, look_one, ?_⟩⟩⟩
    obtain ⟨w1, _⟩ := er_new2 (fs := [("one", v)]) (gs := [("other", .int 7), ("one", v)]) n1 d1 e1
    refine ⟨_, rfl, by show 2 ≤ 1000; decide, fun a2 n2 => ⟨a2, _, v, rfl, upd_same, fun x2 d2 e2 => ⟨rfl, by show 2 ≤ sizeLine; decide, fun t nt => ?_⟩⟩⟩
    obtain ⟨w2, er2⟩ := er_new2 (fs := [("one", .int 7)]) (gs := [("other", v), ("one", .int 7)]) n2 d2 e2
    exact k _ _ _ ((w1.trans w2).trans (same_new nt)) upd_same (er2.up (same_new nt))
end
end My
set_option maxRecDepth 100000
set_option maxHeartbeats 4000000
namespace My
open PySem PySem.Spec PyProof.Rows L2 GL
abbrev sLaw : Stmt := topS 48
def Thing (K : PySem.W.Frag) (H : Hp) (v : V) : Prop := ∃ t, ReprOf K H v t
theorem rp_up {K : PySem.W.Frag} {H H' : Hp} {v : V} {t : Str} (e : Same H H') (h : ReprOf K H v t) : ReprOf K H' v t := by
  rcases h with h | h | h | h | ⟨a, d, h1, h2, h3⟩ | ⟨a, h1, h2, h3⟩
  · exact .inl h
  · exact .inr (.inl h)
  · exact .inr (.inr (.inl h))
  · exact .inr (.inr (.inr (.inl h)))
  · exact .inr (.inr (.inr (.inr (.inl ⟨a, d, h1, dp_up e _ _ h2, h3⟩))))
  · exact .inr (.inr (.inr (.inr (.inr ⟨a, h1, e _ _ h2, h3⟩))))
theorem Thing.up {K : PySem.W.Frag} {H H' : Hp} {v : V} (h : Thing K H v) (e : Same H H') : Thing K H' v := ⟨h.choose, rp_up e h.choose_spec⟩
theorem Thing.of {K : PySem.W.Frag} {H : Hp} {a : Addr} {d : PyData} {D : Nat} (h : Dp K H (.ref a) d) (n : Nice 60 300000 d) : Thing K H (.ref a) := ⟨d.shown, .inr (.inr (.inr (.inr (.inl ⟨a, d, rfl, h, n.sh, n.nd, n.dp, n.fits (Nat.le_refl _), rfl⟩))))⟩
theorem Thing.deep {K : PySem.W.Frag} {H : Hp} {v : V} {n : Nat} (h : Dp K H v (deepD (n + 1))) (z : Nice 60 300000 (deepD (n + 1))) : Thing K H v := by
  cases h with
  | lst q r => exact Thing.of (D := 0) (.lst q r) z
/-- p, c and e are hidden -/
def hid3 (H : Hp) (p c e : Addr) : Hp := fun b => if b = e then none else hid H p c b
theorem hid3_at {H : Hp} {p c e b : Addr} {o : HO} : hid3 H p c e b = some o ↔ b ≠ e ∧ (b ≠ p ∧ b ≠ c) ∧ H b = some o := by
  unfold hid3
  by_cases h : b = e
  · rw [if_pos h]
    exact ⟨fun z => (nomatch z), fun z => absurd h z.1⟩
  · rw [if_neg h]
    exact ⟨fun z => ⟨h, hid_at.mp z⟩, fun z => hid_at.mpr z.2⟩
theorem hid3_le {H : Hp} {p c e : Addr} : Same (hid3 H p c e) H := fun b o z => (hid3_at.mp z).2.2
theorem hid3_mono {H H' : Hp} {p c e : Addr} (s : Same (hid H p c) (hid H' p c)) : Same (hid3 H p c e) (hid3 H' p c e) := fun b o z => by
  obtain ⟨h1, h2⟩ := hid3_at.mp z
  exact hid3_at.mpr ⟨h1, hid_at.mp (s b o (hid_at.mpr h2))⟩
theorem hid3_same {H H' : Hp} {p c e : Addr} (s : Same H H') : Same (hid3 H p c e) (hid3 H' p c e) := hid3_mono (hid_mono s)
theorem hid3_upd {H : Hp} {p c e : Addr} {o : HO} : hid3 (upd H e o) p c e = hid3 H p c e := by
  funext b
  unfold hid3
  by_cases h : b = e
  · rw [if_pos h, if_pos h]
  · rw [if_neg h, if_neg h]
    unfold hid
    by_cases h2 : b = p ∨ b = c
    · rw [if_pos h2, if_pos h2]
    · rw [if_neg h2, if_neg h2, upd_ne h]
theorem er_hid3 {H : Hp} {p c e a C : Addr} {l : List V} (hp : PoolAt H p c) (he : H e = some (.lst l)) (h : Er H a C) : Er (hid3 H p c e) a C := by
  obtain ⟨s, t, ns, h1, h2, _⟩ := hp.ex
  have far : ∀ {b : Addr} {o : HO}, H b = some o → (∀ y : List V, o ≠ .lst y) → hid3 H p c e b = some o := fun {b o} z n => hid3_at.mpr ⟨fun q => by
      subst q
      rw [he] at z
      exact n _ (Option.some.inj z).symm, ⟨fun q => by
      subst q
      rw [h1] at z
      exact n _ (Option.some.inj z).symm, fun q => by
      subst q
      rw [h2] at z
      exact n _ (Option.some.inj z).symm⟩, z⟩
  obtain ⟨d, ha, hd⟩ := h
  refine ⟨d, far ha fun y z => ?_, fun dd q => ?_⟩
  · have z' : HO.ext _ = HO.lst y := z
    cases z'
  · obtain ⟨fs, hf⟩ := hd dd q
    refine ⟨fs, far hf fun y z => ?_⟩
    have z' : HO.ext _ = HO.lst y := z
    cases z'
section
variable {K : PySem.W.Frag} {p c : Addr} {H H' : Hp}
theorem new_ne {l : Addr} (h : PoolAt H p c) (n : H l = none) : l ≠ p ∧ l ≠ c := by
  obtain ⟨z1, z2, z3, z4, z5, _⟩ := h.ex
  exact ⟨(ne_of_none z4 n).symm, (ne_of_none z5 n).symm⟩
theorem hid_at_new {l : Addr} {o : HO} (h : PoolAt H p c) (n : H l = none) : hid (upd H l o) p c l = some o := hid_at.mpr ⟨new_ne h n, upd_same⟩
theorem seqL_hid {q : Addr} {xs : List V} (h : PoolAt H p c) (z : SqL K H q xs) (n3 : xs.length ≠ 3) (ni : ∀ ns : List Int, xs ≠ ns.map V.int) : SqL K (hid H p c) q xs := by
  obtain ⟨z1, z2, z3, z4, z5, _⟩ := h.ex
  rcases z with (z | ⟨o, z⟩) | z
  · refine .inl (.inl (hid_at.mpr ⟨⟨fun e => ?_, fun e => ?_⟩, z⟩))
    · subst e; rw [z] at z4; cases z4; exact n3 rfl
    · subst e; rw [z] at z5; cases z5; exact ni _ rfl
  · refine .inl (.inr ⟨o, hid_at.mpr ⟨⟨fun e => ?_, fun e => ?_⟩, z⟩⟩)
    · subst e; rw [z] at z4; cases z4
    · subst e; rw [z] at z5; cases z5
  · exact .inr z
theorem deep_ref : ∀ (n : Nat) (v : V), Dp K H v (deepD n) → ∃ b, v = V.ref b
  | 0, _, z => by cases z; exact ⟨_, rfl⟩
  | n + 1, _, z => by cases z; exact ⟨_, rfl⟩
theorem deep_hid (h : PoolAt H p c) : ∀ (n : Nat) (v : V), Dp K H v (deepD n) → Dp K (hid H p c) v (deepD n)
  | 0, _, z => by
    cases z with
    | lst q r =>
      cases r with
      | cons r1 r2 =>
        cases r2
        cases r1
        exact .lst (seqL_hid h q (by simp) (fun ns e => by cases ns <;> cases e)) (.cons .non .nil)
  | n + 1, _, z => by
    cases z with
    | lst q r =>
      cases r with
      | cons r1 r2 =>
        cases r2
        have ih := deep_hid h n _ r1
        obtain ⟨b, rfl⟩ := deep_ref n _ r1
        exact .lst (seqL_hid h q (by simp) (fun ns e => by cases ns <;> cases e)) (.cons ih .nil)
end
theorem at_pick {α : Type} {xs : List α} {d : Int} (h0 : 0 ≤ d) (h1 : d < (xs.length : Nat)) : ∃ v, atI xs d = some v ∧ v ∈ xs := by
  obtain ⟨j, rfl⟩ : ∃ j : Nat, d = (j : Int) := ⟨d.toNat, by omega⟩
  have hj : j < xs.length := by omega
  exact ⟨xs[j], atI_nat (List.getElem?_eq_getElem hj), List.getElem_mem hj⟩
theorem hid_new {H : Hp} {p c x : Addr} {o : HO} (h : H x = none) : Same (hid H p c) (hid (upd H x o) p c) := hid_mono (same_new h)
theorem PoolAt.off {H : Hp} {p c D : Addr} {o : HO} (h : PoolAt H p c) (n : D ≠ p ∧ D ≠ c) : PoolAt (upd H D o) p c := by
  obtain ⟨s, t, ns, h1, h2, h3⟩ := h.ex
  exact ⟨s, t, ns, by rw [upd_ne n.1.symm]; exact h1, by rw [upd_ne n.2.symm]; exact h2, h3⟩
theorem to3 {H : Hp} {p c e : Addr} (n : H e = none) : Same (hid H p c) (hid3 H p c e) := fun b o z => hid3_at.mpr ⟨ne_of_none (hid_le b o z) n, hid_at.mp z⟩
/-! ### the flags of an error -/
theorem bits_count : ∀ j, j < 39 → (bits j).count true = 1 := by decide +kernel
theorem bits_at {j m : Nat} (h : m < 39) : ((bits j).map V.bl)[m]? = some (.bl (decide (m = j))) := by
  unfold bits
  rw [List.getElem?_map, List.getElem?_map, List.getElem?_range h]
  rfl
theorem all_nodup : (madeIx ++ plainIx).Nodup := by decide +kernel
theorem all_small : ∀ j ∈ madeIx ++ plainIx, j < 39 := by decide +kernel
theorem ints_nodup {js : List Nat} (h : js.Nodup) : (js.map fun (j : Nat) => (j : Int)).Nodup := by
  induction js with
  | nil => exact List.nodup_nil
  | cons a r ih =>
    rw [List.map_cons, List.nodup_cons]
    obtain ⟨h1, h2⟩ := List.nodup_cons.mp h
    refine ⟨fun z => ?_, ih h2⟩
    obtain ⟨b, hb, e⟩ := List.mem_map.mp z
    have e : b = a := by omega
    subst e
    exact h1 hb
end My
set_option maxRecDepth 100000
set_option maxHeartbeats 4000000
namespace My
open PySem PySem.Spec PyProof.Rows L2 GL
abbrev nL : List Str := ["script", "pool", "things", "errors", "which", "thing", "told", "error"]
theorem scLaw : FnScope nL ["script"] (defScope sLaw) := ⟨rfl, rfl, rfl, by decide +kernel, rfl, by decide +kernel, by decide +kernel⟩
def spLaw (K : PySem.W.Frag) : Sp := fun vs H Q _ => ∃ (a : Addr) (ns : List Int), vs = [.ref a] ∧ SqL K H a (ns.map V.int) ∧ ns.length ≤ 63 ∧ ∀ H', Q (.bl true) H'
/-- a def as the law calls it -/
structure Dn (K : PySem.W.Frag) (mg : Str → Option Value) (x : Str) (f : Addr) (fd : FuncData) (ps : List Str) : Prop where
  m : mg x = some (.ref f)
  k : PySem.W.keepIn K (.ref f) = true
  b : Binds K fd ps []
section
variable {P : Program} {w : World} {K : PySem.W.Frag} {mg : Str → Option Value} {base : Heap} {S : Addr} {c : Nat → Addr}
theorem ok_law {f fP fD fE fM fL fK fB : Addr} {fd dP dD dE dM dL dK dB : FuncData} (F : Fun K "law" "law" sLaw f fd) (N : Nm mg) (T : ET K mg S c)
    (GP : FnOk P w K mg base CX0 1 fP dP ["script"] (spPool K)) (aP : Dn K mg "_law_pool" fP dP ["script"])
    (GD : FnOk P w K mg base CX0 1 fD dD ["pool", "many"] spDraw) (aD : Dn K mg "_law_draw" fD dD ["pool", "many"])
    (GE : FnOk P w K mg base CX0 1 fE dE [] (spDeep K)) (aE : Dn K mg "_law_deep" fE dE [])
    (GM : FnOk P w K mg base CX0 3 fM dM ["which", "thing"] (spMade c)) (aM : Dn K mg "_law_made" fM dM ["which", "thing"])
    (GL : FnOk P w K mg base CX0 3 fL dL [] (spPlain K c)) (aL : Dn K mg "_law_plain" fL dL [])
    (GK : FnOk P w K mg base CX0 1 fK dK ["e"] (spKinds K c)) (aK : Dn K mg "_law_kinds" fK dK ["e"])
    (GB : FnOk P w K mg base CX0 1 fB dB ["self", "one", "other"] (spF2 (c 4))) (bB : Binds K dB ["self", "one", "other"] []) (iB : PySem.W.findIn K (.ref (c 4)) "__init__" = some (some (.ref fB))) (tB : PySem.W.typeIn K (.ref fB) = some (.type "function"))
    (oB : PySem.W.findIn K (.ref (c 4)) "other" = some none) :
    FnG P w K mg base 4 f fd ["script"] (spLaw K) := by
  refine F.okG scLaw (fun vs H Q h => ?_) (fun cdv A outer s H vs Q hg hr h => ?_)
  · obtain ⟨a, ns, rfl, _⟩ := h
    rfl
  · obtain ⟨a, ns, rfl, hS, hl, k⟩ := h
    have hr1 : Room 1 _ := hr.mono (by decide)
    have hr2 : Room 2 _ := hr.mono (by decide)
    have hu := hr.units
    refine ⟨_, pss_cons (ps_set (i := 1) scLaw.nd rfl (.inl rfl) (pe_call GP hr1 (by rfl) aP.m aP.k aP.b .nil pass0 (pa_cons (pv 0) pa_nil)))
      (pss_cons (ps_set (i := 2) scLaw.nd rfl (.inl rfl) (pe_lst (pa_cons pe_non (pa_cons pe_int (pa_cons pe_bl (pa_cons pe_str (pa_cons (pe_tup pa_nil) (pa_cons (pe_tup (pa_cons pe_str (pa_cons pe_int pa_nil))) (pa_cons (pe_lst (pa_cons pe_int pa_nil))
          (pa_cons pe_dnewK (pa_cons (pe_call0 GE hr1 (by rfl) aE.m aE.k aE.b .nil pass0) (pa_cons (pe_un un_neg pe_int) (pa_cons (pe_op op_pow pe_int pe_int) pa_nil)))))))))))))
      (pss_cons (ps_set (i := 3) scLaw.nd rfl (.inl rfl) (pe_lst pa_nil))
      (pss_cons (ps_for PassesOwn.never rfl (pi_range1 rfl N.range (pa_cons pe_int pa_nil)) (pg_name (i := 4) scLaw.nd rfl (.inl rfl))
        (pss_cons (ps_set (i := 5) scLaw.nd rfl (.inl rfl) (pe_ix ix_list (pv 2) (pe_call GD hr1 (by rfl) aD.m aD.k aD.b .nil pass0 (pa_cons (pv 1) (pa_cons pe_int pa_nil))) (fun _ _ => rfl)))
        (pss_cons (ps_asg (pe_call GM hr (by rfl) aM.m aM.k aM.b .nil pass0 (pa_cons (pv 4) (pa_cons (pv 5) pa_nil))) (pg_tup rfl (pgs_cons (pg_name (i := 6) scLaw.nd rfl (.inl rfl)) (pgs_cons (pg_name (i := 7) scLaw.nd rfl (.inl rfl)) pgs_nil))))
        (pss_cons (ps_if (pt_cmpR op_ne (pe_callB (call_reprV hg hu) (by rfl) N.repr (by decide +kernel) (pa_cons (pv 6) pa_nil)) (pe_callB (call_reprV hg hu) (by rfl) N.repr (by decide +kernel) (pa_cons (pv 5) pa_nil)) (nomark _)) (pss_one (ps_ret pe_bl)) pss_nil)
        (pss_one (ps_expr (pe_bm PySem.F.plainAttrs_list PySem.F.slot_list_append PySem.F.type_list_append mt_append (pv 3) (pa_cons (pv 7) pa_nil))))))))
      (pss_cons (ps_set (i := 5) scLaw.nd rfl (.inl rfl) (pe_ix ix_list (pv 2) (pe_call GD hr1 (by rfl) aD.m aD.k aD.b .nil pass0 (pa_cons (pv 1) (pa_cons pe_int pa_nil))) (fun _ _ => rfl)))
      (pss_cons (ps_if (pt_cmpR op_ne (pe_callB (call_reprV hg hu) (by rfl) N.repr (by decide +kernel) (pa_cons (pe_xv (T.ex 4 (by decide)).xf oB (pe_mkV (T.ex 4 (by decide)).oex iB tB GB hr2 bB rfl T.m4 (pa_cons pe_int (pa_cons (pv 5) pa_nil)))) pa_nil))
          (pe_callB (call_reprV hg hu) (by rfl) N.repr (by decide +kernel) (pa_cons (pv 5) pa_nil)) (nomark _)) (pss_one (ps_ret pe_bl)) pss_nil)
      (pss_cons (ps_set (i := 3) scLaw.nd rfl (.inl rfl) (pe_op op_cat (pv 3) (pe_call0 GL hr (by rfl) aL.m aL.k aL.b .nil pass0)))
      (pss_cons (ps_for PassesOwn.never rfl (pi_list (pv 3)) (pg_name (i := 7) scLaw.nd rfl (.inl rfl))
        (pss_one (ps_if (PW.pt (pw_or (pt_not (pt_val (pe_callB call_isV (by rfl) N.isinstance (by decide +kernel) (pa_cons (pv 7) (pa_cons (pe_glob (v := .ref S) rfl T.mS rfl) pa_nil)))))
          (pw_or (pt_not (pt_val (pe_callB call_isV (by rfl) N.isinstance (by decide +kernel) (pa_cons (pv 7) (pa_cons (pe_bltn (v := .ty "ValueError") (by rfl) N.valueError (by decide +kernel) rfl) pa_nil)))))
          (pw_or1 (pt_cmpR op_ne (pe_bm PySem.F.plainAttrs_list PySem.F.slot_list_count PySem.F.type_list_count mt_countB (pe_call GK hr1 (by rfl) aK.m aK.k aK.b .nil pass0 (pa_cons (pv 7) pa_nil)) (pa_cons pe_bl pa_nil)) pe_int (nomark _))))))
          (pss_one (ps_ret pe_bl)) pss_nil)))
      (pss_one (ps_ret (pe_cmpR op_eq (RZ.pe_lenSetI (by rfl) N.len (by rfl) N.set (pe_lc (own := [("error", 7)]) (g := gName 7) (tt := tYes) (te := tBM K "list" (rIndex K) (tCall (spKinds K c) [] E0 (tCons (tVar 7) tNil)) (tCons (tC (.bl true)) tNil)) (by rfl) scLaw.nd (pi_list (pv 3)) (blkOk_by (N := nL) (sc := defScope sLaw) (by decide +kernel))
          (fun _ _ _ _ _ => pg_name (i := 7) scLaw.nd rfl (Or.inl rfl)) (fun _ _ _ _ _ => pts_nil)
          (fun _ _ _ _ _ => by exact (pe_bm PySem.F.plainAttrs_list PySem.F.slot_list_index PySem.F.type_list_index mt_index (pe_call GK hr1 (by rfl) aK.m aK.k aK.b .nil pass0 (pa_cons (pv 7) pa_nil)) (pa_cons pe_bl pa_nil)))))
        (pe_callB call_len_seq (by rfl) N.len PySem.boot_len (pa_cons (pv 3) pa_nil)) (nomark _))))))))))), ?_⟩
    refine ⟨_, rfl, a, ns, rfl, hS, hl, fun p cc H1 s1 _ _ hp1 => ?_⟩
    refine ⟨by show 0 ≤ sizeLine; decide, fun t1 g1 => ⟨by show 2 ≤ sizeLine; decide, fun t2 g2 => ⟨by show 1 ≤ sizeLine; decide, fun l1 g3 => fun d1 g4 => ⟨rfl, fun vd H2 s2 hd => ⟨_, rfl, _, _, rfl, rfl, ⟨by decide, by decide, by decide⟩, by show 11 ≤ sizeLine; decide, fun L gL => ?_⟩⟩⟩⟩⟩
    have pA := hp1.same (same_new (o := .tup []) g1)
    have pB := pA.same (same_new (o := .tup [V.str "x", V.int 3]) g2)
    have pC := pB.same (same_new (o := .lst [V.int 1]) g3)
    have pD := pC.same (same_new (o := .dK []) g4)
    have p2 := pD.same s2
    have x1 := hid_mono s2 _ _ (hid_new g4 _ _ (hid_new g3 _ _ (hid_new g2 _ _ (hid_at_new hp1 g1 (o := .tup [])))) (o := .dK []))
    have x2 := hid_mono s2 _ _ (hid_new g4 _ _ (hid_new g3 _ _ (hid_at_new pA g2 (o := .tup [V.str "x", V.int 3]))) (o := .dK []))
    have x3 := hid_mono s2 _ _ (hid_new g4 _ _ (hid_at_new pB g3 (o := .lst [V.int 1])) (o := .dK []))
    have x4 := hid_mono s2 _ _ (hid_at_new pC g4 (o := .dK []))
    have x5 : Dp K (hid H2 p cc) vd (deepD 35) := deep_hid p2 35 vd hd
    obtain ⟨ths, eths⟩ : ∃ ths : List V, ths = [V.non, V.int 0, V.bl true, V.str "a", V.ref t1, V.ref t2, V.ref l1, V.ref d1, vd, V.int (-7), V.int (10 ^ (19 : Int).toNat)] := ⟨_, rfl⟩
    have hths : ∀ u ∈ ths, Thing K (hid H2 p cc) u := fun u hu => by
      rw [eths] at hu
      simp only [List.mem_cons, List.not_mem_nil, or_false] at hu
      rcases hu with rfl | rfl | rfl | rfl | rfl | rfl | rfl | rfl | rfl | rfl | rfl
      · exact ⟨_, .inl ⟨rfl, rfl⟩⟩
      · exact ⟨_, .inr (.inr (.inl ⟨_, rfl, by decide, rfl⟩))⟩
      · exact ⟨_, .inr (.inl ⟨_, rfl, rfl⟩)⟩
      · exact ⟨_, .inr (.inr (.inr (.inl ⟨_, rfl, rfl, by decide +kernel⟩)))⟩
      · exact Thing.of (d := .tuple []) (D := 0) (.tup (SqT.of x1) .nil) (by constructor <;> decide +kernel)
      · exact Thing.of (d := .tuple [.str "x", .int 3]) (D := 0) (.tup (SqT.of x2) (.cons (.str _) (.cons (.int _) .nil))) (by constructor <;> decide +kernel)
      · exact Thing.of (d := .list [.int 1]) (D := 0) (.lst (SqL.of x3) (.cons (.int _) .nil)) (by constructor <;> decide +kernel)
      · exact ⟨_, .inr (.inr (.inr (.inr (.inr ⟨_, rfl, x4, rfl⟩))))⟩
      · exact Thing.deep (n := 34) x5 (nice_deep.mono (by decide) (by decide))
      · exact ⟨_, .inr (.inr (.inl ⟨_, rfl, by decide, rfl⟩))⟩
      · exact ⟨_, .inr (.inr (.inl ⟨_, rfl, by decide +kernel, rfl⟩))⟩
    have lths : ths.length = 11 := by
      rw [eths]
      rfl
    rw [← eths]
    have pL := p2.same (same_new (o := .lst ths) gL)
    have hLL := hid_at_new p2 gL (o := .lst ths)
    have hths := fun u hu => (hths u hu).up (hid_new (p := p) (c := cc) (o := .lst ths) gL)
    revert pL hLL hths
    generalize upd H2 L (.lst ths) = H3
    intro pL hLL hths
    refine ⟨by show 0 ≤ sizeLine; decide, fun E gE => ?_⟩
    have neE := new_ne pL gE
    have pE : PoolAt (upd H3 E (.lst [])) p cc := pL.off neE
    have hLE : hid3 (upd H3 E (.lst [])) p cc E L = some (.lst ths) := by rw [hid3_upd]; exact to3 gE _ _ hLL
    have htE : ∀ u ∈ ths, Thing K (hid3 (upd H3 E (.lst [])) p cc E) u := fun u hu => by rw [hid3_upd]; exact (hths u hu).up (to3 gE)
    refine ⟨12, rfl, by decide, by decide, for_range (n := 12) (fun i σ H => ∃ (v4 v5 v6 v7 : Option V) (ers : List V), σ = [some (.ref a), some (.ref p), some (.ref L), some (.ref E), v4, v5, v6, v7] ∧ PoolAt H p cc ∧ H E = some (.lst ers) ∧ hid3 H p cc E L = some (.lst ths) ∧ (∀ u ∈ ths, Thing K (hid3 H p cc E) u) ∧ ErAll c (hid3 H p cc E) ers (madeIx.take i))
      ⟨none, none, none, none, [], rfl, pE, upd_same, hLE, htE, .nil⟩ ?_ ?_⟩
    · rintro i σ H4 hi ⟨v4, v5, v6, v7, ers, rfl, hp4, hE4, hL4, ht4, es4⟩
      refine ⟨_, rfl, _, rfl, p, cc, 11, rfl, hp4, by decide, by decide, fun d H5 d0 d5 hp5 s5 => ?_⟩
      obtain ⟨v, hv, mv⟩ := at_pick (xs := ths) d0 (by rw [lths]; exact d5)
      have f5 := hid3_mono (e := E) s5
      have hL5 := f5 _ _ hL4
      have hE5 : H5 E = some (.lst ers) := (hid_at.mp (s5 E _ (hid_at.mpr ⟨neE, hE4⟩))).2
      refine ⟨L, ths, d, v, rfl, rfl, SqL.of (hid3_le _ _ hL5), hv, ?_⟩
      obtain ⟨j, hj⟩ : ∃ j, madeIx[i]? = some j := ⟨madeIx[i]'(show i < madeIx.length from hi), List.getElem?_eq_getElem _⟩
      refine ⟨_, rfl, _, rfl, i, j, v, by rw [Int.zero_add] <;> rfl, hi, hj, fun t b H6 s6 ht6 er6 => ?_⟩
      refine ⟨t, _, rfl, SqT.of ht6, rfl, _, _, rfl, _, _, rfl, rfl, ?_⟩
      have hp6 := hp5.same s6
      have f6 := hid3_same (p := p) (c := cc) (e := E) s6
      have hE6 := s6 _ _ hE5
      have hL6 := f6 _ _ hL5
      have ht6' := fun u hu => (ht4 u hu).up (f5.trans f6)
      obtain ⟨tx, rp⟩ := (ht6' v mv).up hid3_le
      refine ⟨_, rfl, v, tx, rfl, rp, _, rfl, v, tx, rfl, rp, rfl, _, rfl, no_of (by simp) ?_⟩
      have es6 := (es4.up (f5.trans f6)).app (.cons ⟨b, rfl, er_hid3 hp6 hE6 er6⟩ .nil)
      have le6 := es4.length
      refine ⟨_, rfl, .inl ⟨rfl, _, SqL.of hE6⟩, _, rfl, E, ers, _, rfl, rfl, hE6, small1000 (by rw [le6, List.length_take]; omega), ?_⟩
      refine ⟨_, _, _, _, ers ++ [.ref b], rfl, hp6.off neE, upd_same, by rw [hid3_upd]; exact hL6, fun u hu => by rw [hid3_upd]; exact ht6' u hu, ?_⟩
      rw [hid3_upd, List.take_add_one, hj]
      exact es6
    · rintro σ H4 ⟨v4, v5, v6, v7, ers, rfl, hp4, hE4, hL4, ht4, es4⟩
      refine ⟨_, rfl, _, rfl, p, cc, 11, rfl, hp4, by decide, by decide, fun d H5 d0 d5 hp5 s5 => ?_⟩
      obtain ⟨v, hv, mv⟩ := at_pick (xs := ths) d0 (by rw [lths]; exact d5)
      have f5 := hid3_mono (e := E) s5
      have hL5 := f5 _ _ hL4
      have hE5 : H5 E = some (.lst ers) := (hid_at.mp (s5 E _ (hid_at.mpr ⟨neE, hE4⟩))).2
      refine ⟨L, ths, d, v, rfl, rfl, SqL.of (hid3_le _ _ hL5), hv, ?_⟩
      have es5 := (es4.up f5).up hid3_le
      obtain ⟨tx, rp⟩ := ((ht4 v mv).up f5).up hid3_le
      refine ⟨_, rfl, by show 2 ≤ 1000; decide, fun b1 n1 => ⟨b1, .int 3, v, rfl, upd_same, fun x1 d1 e1 => ⟨rfl, b1, x1, _, v, rfl, by rw [upd_ne e1.symm, upd_same], upd_same, other_look, ?_⟩⟩⟩
      obtain ⟨w1, _⟩ := er_new2 (fs := [("one", .int 3)]) (gs := [("other", v), ("one", .int 3)]) n1 d1 e1
      have hE6 := w1 _ _ hE5
      have es6 := es5.up w1
      have rp6 := rp_up w1 rp
      revert hE6 es6 rp6
      generalize upd (upd (upd (upd H5 b1 (exo b1 (c 4) none)) x1 (exd x1 [("one", V.int 3)])) b1 (exo b1 (c 4) (some x1))) x1 (exd x1 [("other", v), ("one", V.int 3)]) = H6
      intro hE6 es6 rp6
      refine ⟨v, tx, rfl, rp6, _, rfl, v, tx, rfl, rp6, rfl, _, rfl, no_of (by simp) ?_⟩
      refine ⟨_, rfl, rfl, fun l xs H7 s7 hl7 es7 => ?_⟩
      have le6 := es6.length
      have le7 := es7.length
      have l12 : ers.length = 12 := le6
      have l27 : xs.length = 27 := le7
      refine ⟨E, l, ers, xs, rfl, rfl, s7 _ _ hE6, hl7, by rw [l12, l27]; decide, fun r nr => ?_⟩
      have all := ((es6.up s7).app es7).up (same_new (o := .lst (ers ++ xs)) nr)
      have hr : (upd H7 r (.lst (ers ++ xs))) r = some (.lst (ers ++ xs)) := upd_same
      have lall : (ers ++ xs).length = 39 := by rw [List.length_append, l12, l27]
      have small : ∀ j ∈ madeIx.take 12 ++ plainIx, j < 39 := all_small
      have nodup : (madeIx.take 12 ++ plainIx).Nodup := all_nodup
      have ljs : (madeIx.take 12 ++ plainIx).length = 39 := by decide +kernel
      revert all hr lall small nodup ljs
      generalize upd H7 r (.lst (ers ++ xs)) = H8
      generalize ers ++ xs = us
      generalize madeIx.take 12 ++ plainIx = js
      intro all hr lall small nodup ljs
      refine ⟨_, rfl, r, rfl, ⟨us, SqL.of hr⟩, for_list (fun i σ H => Same H8 H ∧ ∃ v7 : Option V, σ = [some (.ref a), some (.ref p), some (.ref L), some (.ref r), v4, some v, v6, v7])
        ⟨Same.refl _, _, rfl⟩ (fun i σ H hi z => SqL.of (z.1 _ _ hr)) (fun i u σ H hu z => ?_) (fun σ H z => ?_)⟩
      · obtain ⟨s9, v7, rfl⟩ := z
        obtain ⟨j, b, hj, rfl, er⟩ := all.at hu
        have j39 := small j (List.mem_of_getElem? hj)
        have er := er.up s9
        refine ⟨_, rfl, b, c j, _, _, _, rfl, er, T.exc j39, .own _, T.kitS j39, _, rfl, no_of rfl ?_⟩
        refine ⟨_, rfl, b, c j, _, _, _, rfl, er, T.exc j39, .ty "ValueError", kit_val (T.ex j j39), _, rfl, no_of rfl ?_⟩
        refine ⟨_, rfl, b, j, rfl, j39, er, fun l H9 s10 q10 => ?_⟩
        refine ⟨.inl ⟨rfl, _, q10⟩, l, bits j, rfl, rfl, q10, ?_⟩
        refine ⟨rfl, _, rfl, no_of (by rw [bits_count j j39] <;> rfl) ?_⟩
        exact ⟨s9.trans s10, _, rfl⟩
      · obtain ⟨s9, v7, rfl⟩ := z
        have all := all.up s9
        have hr := s9 _ _ hr
        refine ⟨_, rfl, r, rfl, ⟨us, SqL.of hr⟩, fun D nD => lc_list (fun i G => Same H G ∧ G D = some (.lst ((js.take i).map fun (j : Nat) => V.int (j : Int))))
          ⟨same_new nD, upd_same⟩ (fun i G hi z => SqL.of (z.1 _ _ hr)) (fun i u G hu z => ?_) (fun G z => ?_)⟩
        · obtain ⟨sG, hD⟩ := z
          obtain ⟨j, b, hj, rfl, er⟩ := all.at hu
          have j39 := small j (List.mem_of_getElem? hj)
          refine ⟨rfl, _, rfl, b, j, rfl, j39, er.up sG, fun l H9 s10 q10 => ?_⟩
          refine ⟨.inl ⟨rfl, _, q10⟩, l, (bits j).map V.bl, .bl true, j, .bl (decide (j = j)), rfl, rfl, q10, rfl, flats _, bits_at j39, by rw [decide_eq_true rfl] <;> rfl, fun m z' hm hz => ?_, ?_⟩
          · rw [bits_at (by omega)] at hz
            have e := Option.some.inj hz
            subst e
            rw [decide_eq_false (by omega)]
            rfl
          · refine ⟨_, s10 _ _ hD, by rw [List.length_map, List.length_take, sizeLine_eq]; omega, ?_, ?_⟩
            · exact fun b o z => by
                rw [upd_ne (ne_of_none z nD)]
                exact s10 _ _ (sG _ _ z)
            · rw [upd_same, List.take_add_one, hj, List.map_append]
              rfl
        · obtain ⟨sG, hD⟩ := z
          rw [lall, ← ljs, List.take_length] at hD
          refine ⟨D, js.map fun (j : Nat) => (j : Int), rfl, SqL.of (by rw [hD, List.map_map]; rfl), ints_nodup nodup, by rw [List.length_map]; omega, ?_⟩
          refine ⟨_, rfl, r, us, rfl, .inl (SqL.of (sG _ _ hr)), rfl, ?_⟩
          have e : decide (V.int (((js.map fun (j : Nat) => (j : Int)).length : Nat) : Int) = V.int ((us.length : Nat) : Int)) = true := by
            rw [List.length_map, ljs, lall]
            rfl
          rw [e]
          exact k _
end
end My
set_option maxRecDepth 100000
set_option maxHeartbeats 4000000
namespace My
open PySem PySem.Spec PyProof.Rows L2 GL
theorem ex_of {K : PySem.W.Frag} {S C : Addr} {nm q : Str} {N : Addr} {bs : List Value} {sn : List Str} {sub : List Value} {ab : Bool} {col : Option Bool} {dd : Option Addr} {k0 k1 k2 k3 k5 : Option Value}
    (h1 : K.lookup C = some (excClassObj nm q C N bs [.ref S, .type "ValueError", .type "Exception", .type "BaseException", .type "object"] true sn sub ab col dd k0 k1 k2 k3 k5 "ValueError.__new__"))
    (h2 : PySem.W.findIn K (.ref C) "__setattr__" = some (some (.builtin "object.__setattr__")))
    (h3 : PySem.W.findIn K (.ref C) "__getattribute__" = some (some (.builtin "BaseException.__getattribute__")))
    (h4 : PySem.W.findIn K (.ref C) "__getattr__" = some none)
    (h5 : PySem.W.findIn K (.ref C) "__class__" = some (some (.builtin "object.__class__")))
    (h6 : PySem.W.typeIn K (.ref C) = some (.type "type"))
    (h7 : PySem.W.keepIn K (.ref C) = true) : EX K S C := ⟨⟨_, _, _, _, _, _, _, _, _, _, _, _, _, _, h1⟩, h2, h3, h4, h5, h6, h7⟩
theorem forMem {α : Type} {p : α → Prop} {a : α} {l : List α} (h : p a ∧ ∀ x ∈ l, p x) : ∀ x ∈ a :: l, p x := List.forall_mem_cons.mpr h
theorem get_mem {cs : List Addr} {P : Addr → Prop} (h : ∀ x ∈ cs, P x) {j : Nat} (hj : j < cs.length) : P (cs.getD j 0) := by
  rw [List.getD_eq_getElem?_getD, List.getElem?_eq_getElem hj]
  exact h _ (List.getElem_mem hj)
theorem get_inj {cs : List Addr} (h : cs.Nodup) {i j : Nat} (hi : i < cs.length) (hj : j < cs.length) (e : cs.getD i 0 = cs.getD j 0) : i = j := by
  rw [List.getD_eq_getElem?_getD, List.getD_eq_getElem?_getD, List.getElem?_eq_getElem hi, List.getElem?_eq_getElem hj] at e
  have e : cs[i] = cs[j] := e
  have pw := List.pairwise_iff_getElem.mp h
  rcases Nat.lt_trichotomy i j with z | z | z
  · exact absurd e (pw i j hi hj z)
  · exact z
  · exact absurd e.symm (pw j i hj hi z)
theorem all_mk {P : Program} {w : World} {K : PySem.W.Frag} {h : Heap} {mg : Str → Option Value} {fa : Addr} (X : K.In h) (G : h.Ns mainGlobals mg) (hfa : mg "law" = some (.ref fa))
    {fp fd fe fm fn fk fl fS fBadBoxes fBadBook fTooMany fNotFree fNoLists fNoStep fBadScene fNoScene fNoFilm fBadText fNoName fBarred S c0 c1 c2 c3 c4 c5 c6 c7 c8 c9 c10 c11 c12 c13 c14 c15 c16 c17 c18 c19 c20 c21 c22 c23 c24 c25 c26 c27 c28 c29 c30 c31 c32 c33 c34 c35 c36 c37 c38 : Addr} {odp anp odd and ode ane odm anm odn ann odk ank odl anl odS anS odBadBoxes anBadBoxes odBadBook anBadBook odTooMany anTooMany odNotFree anNotFree odNoLists anNoLists odNoStep anNoStep odBadScene anBadScene odNoScene anNoScene odNoFilm anNoFilm odBadText anBadText odNoName anNoName odBarred anBarred : Option Addr} {slp sld sle slm sln slk sll slS slBadBoxes slBadBook slTooMany slNotFree slNoLists slNoStep slBadScene slNoScene slNoFilm slBadText slNoName slBarred : Array (Option Value)} {ocp kVp dcp pmp cdp ctp ocd kVd dcd pmd cdd ctd oce kVe dce pme cde cte ocm kVm dcm pmm cdm ctm ocn kVn dcn pmn cdn ctn ock kVk dck pmk cdk ctk ocl kVl dcl pml cdl ctl ocS kVS dcS pmS cdS ctS ocBadBoxes kVBadBoxes dcBadBoxes pmBadBoxes cdBadBoxes ctBadBoxes ocBadBook kVBadBook dcBadBook pmBadBook cdBadBook ctBadBook ocTooMany kVTooMany dcTooMany pmTooMany cdTooMany ctTooMany ocNotFree kVNotFree dcNotFree pmNotFree cdNotFree ctNotFree ocNoLists kVNoLists dcNoLists pmNoLists cdNoLists ctNoLists ocNoStep kVNoStep dcNoStep pmNoStep cdNoStep ctNoStep ocBadScene kVBadScene dcBadScene pmBadScene cdBadScene ctBadScene ocNoScene kVNoScene dcNoScene pmNoScene cdNoScene ctNoScene ocNoFilm kVNoFilm dcNoFilm pmNoFilm cdNoFilm ctNoFilm ocBadText kVBadText dcBadText pmBadText cdBadText ctBadText ocNoName kVNoName dcNoName pmNoName cdNoName ctNoName ocBarred kVBarred dcBarred pmBarred cdBarred ctBarred : Value}
    (aS : PySem.W.nsIn K mainGlobals "StrokeError" = some (some (.ref S)))
    (iS : PySem.W.isClsIn K S = true)
    (tS : PySem.W.typeIn K (.ref S) = some (.type "type"))
    (wn : PySem.W.specialIn K (.builtin "object.__class__") "__get__" = some (some (.builtin "getset_descriptor.__get__")))
    (wt : PySem.W.takesIn K (.builtin "object.__class__") = some true)
    (a0 : PySem.W.nsIn K mainGlobals "BadBook" = some (some (.ref c0)))
    (e0 : EX K S c0)
    (a1 : PySem.W.nsIn K mainGlobals "BadBoxes" = some (some (.ref c1)))
    (e1 : EX K S c1)
    (a2 : PySem.W.nsIn K mainGlobals "BadScene" = some (some (.ref c2)))
    (e2 : EX K S c2)
    (a3 : PySem.W.nsIn K mainGlobals "BadText" = some (some (.ref c3)))
    (e3 : EX K S c3)
    (a4 : PySem.W.nsIn K mainGlobals "Barred" = some (some (.ref c4)))
    (e4 : EX K S c4)
    (a5 : PySem.W.nsIn K mainGlobals "Full" = some (some (.ref c5)))
    (e5 : EX K S c5)
    (a6 : PySem.W.nsIn K mainGlobals "Last" = some (some (.ref c6)))
    (e6 : EX K S c6)
    (a7 : PySem.W.nsIn K mainGlobals "NoBox" = some (some (.ref c7)))
    (e7 : EX K S c7)
    (a8 : PySem.W.nsIn K mainGlobals "NoContents" = some (some (.ref c8)))
    (e8 : EX K S c8)
    (a9 : PySem.W.nsIn K mainGlobals "NoDrawing" = some (some (.ref c9)))
    (e9 : EX K S c9)
    (a10 : PySem.W.nsIn K mainGlobals "NoFigures" = some (some (.ref c10)))
    (e10 : EX K S c10)
    (a11 : PySem.W.nsIn K mainGlobals "NoFilm" = some (some (.ref c11)))
    (e11 : EX K S c11)
    (a12 : PySem.W.nsIn K mainGlobals "NoLanes" = some (some (.ref c12)))
    (e12 : EX K S c12)
    (a13 : PySem.W.nsIn K mainGlobals "NoLine" = some (some (.ref c13)))
    (e13 : EX K S c13)
    (a14 : PySem.W.nsIn K mainGlobals "NoList" = some (some (.ref c14)))
    (e14 : EX K S c14)
    (a15 : PySem.W.nsIn K mainGlobals "NoLists" = some (some (.ref c15)))
    (e15 : EX K S c15)
    (a16 : PySem.W.nsIn K mainGlobals "NoMoment" = some (some (.ref c16)))
    (e16 : EX K S c16)
    (a17 : PySem.W.nsIn K mainGlobals "NoName" = some (some (.ref c17)))
    (e17 : EX K S c17)
    (a18 : PySem.W.nsIn K mainGlobals "NoNumber" = some (some (.ref c18)))
    (e18 : EX K S c18)
    (a19 : PySem.W.nsIn K mainGlobals "NoParting" = some (some (.ref c19)))
    (e19 : EX K S c19)
    (a20 : PySem.W.nsIn K mainGlobals "NoPicture" = some (some (.ref c20)))
    (e20 : EX K S c20)
    (a21 : PySem.W.nsIn K mainGlobals "NoPlaces" = some (some (.ref c21)))
    (e21 : EX K S c21)
    (a22 : PySem.W.nsIn K mainGlobals "NoRoom" = some (some (.ref c22)))
    (e22 : EX K S c22)
    (a23 : PySem.W.nsIn K mainGlobals "NoRules" = some (some (.ref c23)))
    (e23 : EX K S c23)
    (a24 : PySem.W.nsIn K mainGlobals "NoScene" = some (some (.ref c24)))
    (e24 : EX K S c24)
    (a25 : PySem.W.nsIn K mainGlobals "NoScript" = some (some (.ref c25)))
    (e25 : EX K S c25)
    (a26 : PySem.W.nsIn K mainGlobals "NoSize" = some (some (.ref c26)))
    (e26 : EX K S c26)
    (a27 : PySem.W.nsIn K mainGlobals "NoStep" = some (some (.ref c27)))
    (e27 : EX K S c27)
    (a28 : PySem.W.nsIn K mainGlobals "NoStroke" = some (some (.ref c28)))
    (e28 : EX K S c28)
    (a29 : PySem.W.nsIn K mainGlobals "NoTime" = some (some (.ref c29)))
    (e29 : EX K S c29)
    (a30 : PySem.W.nsIn K mainGlobals "NoWay" = some (some (.ref c30)))
    (e30 : EX K S c30)
    (a31 : PySem.W.nsIn K mainGlobals "NoWays" = some (some (.ref c31)))
    (e31 : EX K S c31)
    (a32 : PySem.W.nsIn K mainGlobals "NoWidth" = some (some (.ref c32)))
    (e32 : EX K S c32)
    (a33 : PySem.W.nsIn K mainGlobals "NotFree" = some (some (.ref c33)))
    (e33 : EX K S c33)
    (a34 : PySem.W.nsIn K mainGlobals "NotKept" = some (some (.ref c34)))
    (e34 : EX K S c34)
    (a35 : PySem.W.nsIn K mainGlobals "NotRunning" = some (some (.ref c35)))
    (e35 : EX K S c35)
    (a36 : PySem.W.nsIn K mainGlobals "NotWithin" = some (some (.ref c36)))
    (e36 : EX K S c36)
    (a37 : PySem.W.nsIn K mainGlobals "NothingDone" = some (some (.ref c37)))
    (e37 : EX K S c37)
    (a38 : PySem.W.nsIn K mainGlobals "TooMany" = some (some (.ref c38)))
    (e38 : EX K S c38)
    (nd : [c0, c1, c2, c3, c4, c5, c6, c7, c8, c9, c10, c11, c12, c13, c14, c15, c16, c17, c18, c19, c20, c21, c22, c23, c24, c25, c26, c27, c28, c29, c30, c31, c32, c33, c34, c35, c36, c37, c38].Nodup)
    (nS : ∀ x ∈ [c0, c1, c2, c3, c4, c5, c6, c7, c8, c9, c10, c11, c12, c13, c14, c15, c16, c17, c18, c19, c20, c21, c22, c23, c24, c25, c26, c27, c28, c29, c30, c31, c32, c33, c34, c35, c36, c37, c38], x ≠ S)
    (gp : PySem.W.nsIn K mainGlobals "_law_pool" = some (some (.ref fp)))
    (lp : K.lookup fp = some ⟨ocp, odp, .func (PySem.W.fnOf "_law_pool" "_law_pool" (defArgs sPool) (defBody sPool) (defScope sPool) .none kVp dcp pmp anp cdp ctp), slp⟩)
    (cop : PySem.W.codeIn K cdp "_law_pool" = true)
    (kep : PySem.W.keepIn K (.ref fp) = true)
    (gd : PySem.W.nsIn K mainGlobals "_law_draw" = some (some (.ref fd)))
    (ld : K.lookup fd = some ⟨ocd, odd, .func (PySem.W.fnOf "_law_draw" "_law_draw" (defArgs sDraw) (defBody sDraw) (defScope sDraw) .none kVd dcd pmd and cdd ctd), sld⟩)
    (cod : PySem.W.codeIn K cdd "_law_draw" = true)
    (ked : PySem.W.keepIn K (.ref fd) = true)
    (ge : PySem.W.nsIn K mainGlobals "_law_deep" = some (some (.ref fe)))
    (le : K.lookup fe = some ⟨oce, ode, .func (PySem.W.fnOf "_law_deep" "_law_deep" (defArgs sDeep) (defBody sDeep) (defScope sDeep) .none kVe dce pme ane cde cte), sle⟩)
    (coe : PySem.W.codeIn K cde "_law_deep" = true)
    (kee : PySem.W.keepIn K (.ref fe) = true)
    (gm : PySem.W.nsIn K mainGlobals "_law_made" = some (some (.ref fm)))
    (lm : K.lookup fm = some ⟨ocm, odm, .func (PySem.W.fnOf "_law_made" "_law_made" (defArgs sMade) (defBody sMade) (defScope sMade) .none kVm dcm pmm anm cdm ctm), slm⟩)
    (com : PySem.W.codeIn K cdm "_law_made" = true)
    (kem : PySem.W.keepIn K (.ref fm) = true)
    (gn : PySem.W.nsIn K mainGlobals "_law_plain" = some (some (.ref fn)))
    (ln : K.lookup fn = some ⟨ocn, odn, .func (PySem.W.fnOf "_law_plain" "_law_plain" (defArgs sPlain) (defBody sPlain) (defScope sPlain) .none kVn dcn pmn ann cdn ctn), sln⟩)
    (con : PySem.W.codeIn K cdn "_law_plain" = true)
    (ken : PySem.W.keepIn K (.ref fn) = true)
    (gk : PySem.W.nsIn K mainGlobals "_law_kinds" = some (some (.ref fk)))
    (lk : K.lookup fk = some ⟨ock, odk, .func (PySem.W.fnOf "_law_kinds" "_law_kinds" (defArgs sKinds) (defBody sKinds) (defScope sKinds) .none kVk dck pmk ank cdk ctk), slk⟩)
    (cok : PySem.W.codeIn K cdk "_law_kinds" = true)
    (kek : PySem.W.keepIn K (.ref fk) = true)
    (gl : PySem.W.nsIn K mainGlobals "law" = some (some (.ref fl)))
    (ll : K.lookup fl = some ⟨ocl, odl, .func (PySem.W.fnOf "law" "law" (defArgs sLaw) (defBody sLaw) (defScope sLaw) .none kVl dcl pml anl cdl ctl), sll⟩)
    (col : PySem.W.codeIn K cdl "law" = true)
    (kel : PySem.W.keepIn K (.ref fl) = true)
    (gS : PySem.W.findIn K (.ref S) "__init__" = some (some (.ref fS)))
    (lS : K.lookup fS = some ⟨ocS, odS, .func (PySem.W.fnOf "__init__" "StrokeError.__init__" (defArgs sS) (defBody sS) (defScope sS) .none kVS dcS pmS anS cdS ctS), slS⟩)
    (coS : PySem.W.codeIn K cdS "StrokeError.__init__" = true)
    (keS : PySem.W.keepIn K (.ref fS) = true)
    (tiS : PySem.W.typeIn K (.ref fS) = some (.type "function"))
    (gBadBoxes : PySem.W.findIn K (.ref c1) "__init__" = some (some (.ref fBadBoxes)))
    (lBadBoxes : K.lookup fBadBoxes = some ⟨ocBadBoxes, odBadBoxes, .func (PySem.W.fnOf "__init__" "BadBoxes.__init__" (defArgs sBadBoxes) (defBody sBadBoxes) (defScope sBadBoxes) .none kVBadBoxes dcBadBoxes pmBadBoxes anBadBoxes cdBadBoxes ctBadBoxes), slBadBoxes⟩)
    (coBadBoxes : PySem.W.codeIn K cdBadBoxes "BadBoxes.__init__" = true)
    (keBadBoxes : PySem.W.keepIn K (.ref fBadBoxes) = true)
    (tiBadBoxes : PySem.W.typeIn K (.ref fBadBoxes) = some (.type "function"))
    (gBadBook : PySem.W.findIn K (.ref c0) "__init__" = some (some (.ref fBadBook)))
    (lBadBook : K.lookup fBadBook = some ⟨ocBadBook, odBadBook, .func (PySem.W.fnOf "__init__" "BadBook.__init__" (defArgs sBadBook) (defBody sBadBook) (defScope sBadBook) .none kVBadBook dcBadBook pmBadBook anBadBook cdBadBook ctBadBook), slBadBook⟩)
    (coBadBook : PySem.W.codeIn K cdBadBook "BadBook.__init__" = true)
    (keBadBook : PySem.W.keepIn K (.ref fBadBook) = true)
    (tiBadBook : PySem.W.typeIn K (.ref fBadBook) = some (.type "function"))
    (gTooMany : PySem.W.findIn K (.ref c38) "__init__" = some (some (.ref fTooMany)))
    (lTooMany : K.lookup fTooMany = some ⟨ocTooMany, odTooMany, .func (PySem.W.fnOf "__init__" "TooMany.__init__" (defArgs sTooMany) (defBody sTooMany) (defScope sTooMany) .none kVTooMany dcTooMany pmTooMany anTooMany cdTooMany ctTooMany), slTooMany⟩)
    (coTooMany : PySem.W.codeIn K cdTooMany "TooMany.__init__" = true)
    (keTooMany : PySem.W.keepIn K (.ref fTooMany) = true)
    (tiTooMany : PySem.W.typeIn K (.ref fTooMany) = some (.type "function"))
    (gNotFree : PySem.W.findIn K (.ref c33) "__init__" = some (some (.ref fNotFree)))
    (lNotFree : K.lookup fNotFree = some ⟨ocNotFree, odNotFree, .func (PySem.W.fnOf "__init__" "NotFree.__init__" (defArgs sNotFree) (defBody sNotFree) (defScope sNotFree) .none kVNotFree dcNotFree pmNotFree anNotFree cdNotFree ctNotFree), slNotFree⟩)
    (coNotFree : PySem.W.codeIn K cdNotFree "NotFree.__init__" = true)
    (keNotFree : PySem.W.keepIn K (.ref fNotFree) = true)
    (tiNotFree : PySem.W.typeIn K (.ref fNotFree) = some (.type "function"))
    (gNoLists : PySem.W.findIn K (.ref c15) "__init__" = some (some (.ref fNoLists)))
    (lNoLists : K.lookup fNoLists = some ⟨ocNoLists, odNoLists, .func (PySem.W.fnOf "__init__" "NoLists.__init__" (defArgs sNoLists) (defBody sNoLists) (defScope sNoLists) .none kVNoLists dcNoLists pmNoLists anNoLists cdNoLists ctNoLists), slNoLists⟩)
    (coNoLists : PySem.W.codeIn K cdNoLists "NoLists.__init__" = true)
    (keNoLists : PySem.W.keepIn K (.ref fNoLists) = true)
    (tiNoLists : PySem.W.typeIn K (.ref fNoLists) = some (.type "function"))
    (gNoStep : PySem.W.findIn K (.ref c27) "__init__" = some (some (.ref fNoStep)))
    (lNoStep : K.lookup fNoStep = some ⟨ocNoStep, odNoStep, .func (PySem.W.fnOf "__init__" "NoStep.__init__" (defArgs sNoStep) (defBody sNoStep) (defScope sNoStep) .none kVNoStep dcNoStep pmNoStep anNoStep cdNoStep ctNoStep), slNoStep⟩)
    (coNoStep : PySem.W.codeIn K cdNoStep "NoStep.__init__" = true)
    (keNoStep : PySem.W.keepIn K (.ref fNoStep) = true)
    (tiNoStep : PySem.W.typeIn K (.ref fNoStep) = some (.type "function"))
    (gBadScene : PySem.W.findIn K (.ref c2) "__init__" = some (some (.ref fBadScene)))
    (lBadScene : K.lookup fBadScene = some ⟨ocBadScene, odBadScene, .func (PySem.W.fnOf "__init__" "BadScene.__init__" (defArgs sBadScene) (defBody sBadScene) (defScope sBadScene) .none kVBadScene dcBadScene pmBadScene anBadScene cdBadScene ctBadScene), slBadScene⟩)
    (coBadScene : PySem.W.codeIn K cdBadScene "BadScene.__init__" = true)
    (keBadScene : PySem.W.keepIn K (.ref fBadScene) = true)
    (tiBadScene : PySem.W.typeIn K (.ref fBadScene) = some (.type "function"))
    (gNoScene : PySem.W.findIn K (.ref c24) "__init__" = some (some (.ref fNoScene)))
    (lNoScene : K.lookup fNoScene = some ⟨ocNoScene, odNoScene, .func (PySem.W.fnOf "__init__" "NoScene.__init__" (defArgs sNoScene) (defBody sNoScene) (defScope sNoScene) .none kVNoScene dcNoScene pmNoScene anNoScene cdNoScene ctNoScene), slNoScene⟩)
    (coNoScene : PySem.W.codeIn K cdNoScene "NoScene.__init__" = true)
    (keNoScene : PySem.W.keepIn K (.ref fNoScene) = true)
    (tiNoScene : PySem.W.typeIn K (.ref fNoScene) = some (.type "function"))
    (gNoFilm : PySem.W.findIn K (.ref c11) "__init__" = some (some (.ref fNoFilm)))
    (lNoFilm : K.lookup fNoFilm = some ⟨ocNoFilm, odNoFilm, .func (PySem.W.fnOf "__init__" "NoFilm.__init__" (defArgs sNoFilm) (defBody sNoFilm) (defScope sNoFilm) .none kVNoFilm dcNoFilm pmNoFilm anNoFilm cdNoFilm ctNoFilm), slNoFilm⟩)
    (coNoFilm : PySem.W.codeIn K cdNoFilm "NoFilm.__init__" = true)
    (keNoFilm : PySem.W.keepIn K (.ref fNoFilm) = true)
    (tiNoFilm : PySem.W.typeIn K (.ref fNoFilm) = some (.type "function"))
    (gBadText : PySem.W.findIn K (.ref c3) "__init__" = some (some (.ref fBadText)))
    (lBadText : K.lookup fBadText = some ⟨ocBadText, odBadText, .func (PySem.W.fnOf "__init__" "BadText.__init__" (defArgs sBadText) (defBody sBadText) (defScope sBadText) .none kVBadText dcBadText pmBadText anBadText cdBadText ctBadText), slBadText⟩)
    (coBadText : PySem.W.codeIn K cdBadText "BadText.__init__" = true)
    (keBadText : PySem.W.keepIn K (.ref fBadText) = true)
    (tiBadText : PySem.W.typeIn K (.ref fBadText) = some (.type "function"))
    (gNoName : PySem.W.findIn K (.ref c17) "__init__" = some (some (.ref fNoName)))
    (lNoName : K.lookup fNoName = some ⟨ocNoName, odNoName, .func (PySem.W.fnOf "__init__" "NoName.__init__" (defArgs sNoName) (defBody sNoName) (defScope sNoName) .none kVNoName dcNoName pmNoName anNoName cdNoName ctNoName), slNoName⟩)
    (coNoName : PySem.W.codeIn K cdNoName "NoName.__init__" = true)
    (keNoName : PySem.W.keepIn K (.ref fNoName) = true)
    (tiNoName : PySem.W.typeIn K (.ref fNoName) = some (.type "function"))
    (gBarred : PySem.W.findIn K (.ref c4) "__init__" = some (some (.ref fBarred)))
    (lBarred : K.lookup fBarred = some ⟨ocBarred, odBarred, .func (PySem.W.fnOf "__init__" "Barred.__init__" (defArgs sBarred) (defBody sBarred) (defScope sBarred) .none kVBarred dcBarred pmBarred anBarred cdBarred ctBarred), slBarred⟩)
    (coBarred : PySem.W.codeIn K cdBarred "Barred.__init__" = true)
    (keBarred : PySem.W.keepIn K (.ref fBarred) = true)
    (tiBarred : PySem.W.typeIn K (.ref fBarred) = some (.type "function"))
    (noBadBoxes_part : PySem.W.findIn K (.ref c1) "part" = some none)
    (noBadBook_index : PySem.W.findIn K (.ref c0) "index" = some none)
    (noTooMany_most : PySem.W.findIn K (.ref c38) "most" = some none)
    (noNotFree_number : PySem.W.findIn K (.ref c33) "number" = some none)
    (noNoLists_index : PySem.W.findIn K (.ref c15) "index" = some none)
    (noNoStep_number : PySem.W.findIn K (.ref c27) "number" = some none)
    (noBadScene_part : PySem.W.findIn K (.ref c2) "part" = some none)
    (noNoScene_why : PySem.W.findIn K (.ref c24) "why" = some none)
    (noNoFilm_index : PySem.W.findIn K (.ref c11) "index" = some none)
    (noBadText_line : PySem.W.findIn K (.ref c3) "line" = some none)
    (noNoName_name : PySem.W.findIn K (.ref c17) "name" = some none)
    (noBarred_one : PySem.W.findIn K (.ref c4) "one" = some none)
    (noBarred_other : PySem.W.findIn K (.ref c4) "other" = some none)
    (pl21 : PySem.W.findIn K (.ref c21) "__init__" = some (some (.ref fS)))
    (pl20 : PySem.W.findIn K (.ref c20) "__init__" = some (some (.ref fS)))
    (pl18 : PySem.W.findIn K (.ref c18) "__init__" = some (some (.ref fS)))
    (pl28 : PySem.W.findIn K (.ref c28) "__init__" = some (some (.ref fS)))
    (pl16 : PySem.W.findIn K (.ref c16) "__init__" = some (some (.ref fS)))
    (pl25 : PySem.W.findIn K (.ref c25) "__init__" = some (some (.ref fS)))
    (pl31 : PySem.W.findIn K (.ref c31) "__init__" = some (some (.ref fS)))
    (pl30 : PySem.W.findIn K (.ref c30) "__init__" = some (some (.ref fS)))
    (pl23 : PySem.W.findIn K (.ref c23) "__init__" = some (some (.ref fS)))
    (pl34 : PySem.W.findIn K (.ref c34) "__init__" = some (some (.ref fS)))
    (pl32 : PySem.W.findIn K (.ref c32) "__init__" = some (some (.ref fS)))
    (pl36 : PySem.W.findIn K (.ref c36) "__init__" = some (some (.ref fS)))
    (pl14 : PySem.W.findIn K (.ref c14) "__init__" = some (some (.ref fS)))
    (pl12 : PySem.W.findIn K (.ref c12) "__init__" = some (some (.ref fS)))
    (pl10 : PySem.W.findIn K (.ref c10) "__init__" = some (some (.ref fS)))
    (pl19 : PySem.W.findIn K (.ref c19) "__init__" = some (some (.ref fS)))
    (pl8 : PySem.W.findIn K (.ref c8) "__init__" = some (some (.ref fS)))
    (pl35 : PySem.W.findIn K (.ref c35) "__init__" = some (some (.ref fS)))
    (pl37 : PySem.W.findIn K (.ref c37) "__init__" = some (some (.ref fS)))
    (pl29 : PySem.W.findIn K (.ref c29) "__init__" = some (some (.ref fS)))
    (pl7 : PySem.W.findIn K (.ref c7) "__init__" = some (some (.ref fS)))
    (pl22 : PySem.W.findIn K (.ref c22) "__init__" = some (some (.ref fS)))
    (pl26 : PySem.W.findIn K (.ref c26) "__init__" = some (some (.ref fS)))
    (pl5 : PySem.W.findIn K (.ref c5) "__init__" = some (some (.ref fS)))
    (pl6 : PySem.W.findIn K (.ref c6) "__init__" = some (some (.ref fS)))
    (pl9 : PySem.W.findIn K (.ref c9) "__init__" = some (some (.ref fS)))
    (pl13 : PySem.W.findIn K (.ref c13) "__init__" = some (some (.ref fS)))
    (z_int : PySem.W.nsIn K mainGlobals "int" = some none)
    (z_sum : PySem.W.nsIn K mainGlobals "sum" = some none)
    (z_len : PySem.W.nsIn K mainGlobals "len" = some none)
    (z_abs : PySem.W.nsIn K mainGlobals "abs" = some none)
    (z_range : PySem.W.nsIn K mainGlobals "range" = some none)
    (z_isinstance : PySem.W.nsIn K mainGlobals "isinstance" = some none)
    (z_repr : PySem.W.nsIn K mainGlobals "repr" = some none)
    (z_set : PySem.W.nsIn K mainGlobals "set" = some none)
    (z_ValueError : PySem.W.nsIn K mainGlobals "ValueError" = some none) :
    ∃ fd : FuncData, (∀ (s : Shared) (v : Value), BindsTo s fd ⟨[v], []⟩ [("script", v)]) ∧ ∀ base : Heap, K.In base → base.Ns mainGlobals mg → FnG P w K mg base 4 fa fd ["script"] (spLaw K) := by
  have e := hfa.symm.trans (PySem.W.mg_of X G gl)
  cases e
  have N : Nm mg := ⟨PySem.W.mg_none_of X G z_int, PySem.W.mg_none_of X G z_sum, PySem.W.mg_none_of X G z_len, PySem.W.mg_none_of X G z_abs, PySem.W.mg_none_of X G z_range, PySem.W.mg_none_of X G z_isinstance, PySem.W.mg_none_of X G z_repr, PySem.W.mg_none_of X G z_set, PySem.W.mg_none_of X G z_ValueError⟩
  have exs : ∀ x ∈ [c0, c1, c2, c3, c4, c5, c6, c7, c8, c9, c10, c11, c12, c13, c14, c15, c16, c17, c18, c19, c20, c21, c22, c23, c24, c25, c26, c27, c28, c29, c30, c31, c32, c33, c34, c35, c36, c37, c38], EX K S x := (forMem ⟨e0, (forMem ⟨e1, (forMem ⟨e2, (forMem ⟨e3, (forMem ⟨e4, (forMem ⟨e5, (forMem ⟨e6, (forMem ⟨e7, (forMem ⟨e8, (forMem ⟨e9, (forMem ⟨e10, (forMem ⟨e11, (forMem ⟨e12, (forMem ⟨e13, (forMem ⟨e14, (forMem ⟨e15, (forMem ⟨e16, (forMem ⟨e17, (forMem ⟨e18, (forMem ⟨e19, (forMem ⟨e20, (forMem ⟨e21, (forMem ⟨e22, (forMem ⟨e23, (forMem ⟨e24, (forMem ⟨e25, (forMem ⟨e26, (forMem ⟨e27, (forMem ⟨e28, (forMem ⟨e29, (forMem ⟨e30, (forMem ⟨e31, (forMem ⟨e32, (forMem ⟨e33, (forMem ⟨e34, (forMem ⟨e35, (forMem ⟨e36, (forMem ⟨e37, (forMem ⟨e38, (fun x hx => absurd hx List.not_mem_nil)⟩)⟩)⟩)⟩)⟩)⟩)⟩)⟩)⟩)⟩)⟩)⟩)⟩)⟩)⟩)⟩)⟩)⟩)⟩)⟩)⟩)⟩)⟩)⟩)⟩)⟩)⟩)⟩)⟩)⟩)⟩)⟩)⟩)⟩)⟩)⟩)⟩)⟩)⟩)
  have T : ET K mg S (fun j => [c0, c1, c2, c3, c4, c5, c6, c7, c8, c9, c10, c11, c12, c13, c14, c15, c16, c17, c18, c19, c20, c21, c22, c23, c24, c25, c26, c27, c28, c29, c30, c31, c32, c33, c34, c35, c36, c37, c38].getD j 0) := ⟨PySem.W.mg_of X G aS, iS, tS, wn, wt, fun j hj => get_mem exs hj, fun j hj => get_mem nS hj, fun i j hi hj e => get_inj nd hi hj e,
    ⟨PySem.W.mg_of X G a0, PySem.W.mg_of X G a1, PySem.W.mg_of X G a2, PySem.W.mg_of X G a3, PySem.W.mg_of X G a4, PySem.W.mg_of X G a5, PySem.W.mg_of X G a6, PySem.W.mg_of X G a7, PySem.W.mg_of X G a8, PySem.W.mg_of X G a9, PySem.W.mg_of X G a10, PySem.W.mg_of X G a11, PySem.W.mg_of X G a12, PySem.W.mg_of X G a13, PySem.W.mg_of X G a14, PySem.W.mg_of X G a15, PySem.W.mg_of X G a16, PySem.W.mg_of X G a17, PySem.W.mg_of X G a18, PySem.W.mg_of X G a19, PySem.W.mg_of X G a20, PySem.W.mg_of X G a21, PySem.W.mg_of X G a22, PySem.W.mg_of X G a23, PySem.W.mg_of X G a24, PySem.W.mg_of X G a25, PySem.W.mg_of X G a26, PySem.W.mg_of X G a27, PySem.W.mg_of X G a28, PySem.W.mg_of X G a29, PySem.W.mg_of X G a30, PySem.W.mg_of X G a31, PySem.W.mg_of X G a32, PySem.W.mg_of X G a33, PySem.W.mg_of X G a34, PySem.W.mg_of X G a35, PySem.W.mg_of X G a36, PySem.W.mg_of X G a37, PySem.W.mg_of X G a38⟩⟩
  have Fp := fun_mk (st := sPool) lp cop kep
  have bp := Fp.binds (ps := ["script"]) fun _ _ _ _ _ _ us hl => match us, hl with | [_], _ => rfl
  have Fd := fun_mk (st := sDraw) ld cod ked
  have bd := Fd.binds (ps := ["pool", "many"]) fun _ _ _ _ _ _ us hl => match us, hl with | [_, _], _ => rfl
  have Fe := fun_mk (st := sDeep) le coe kee
  have be := Fe.binds (ps := []) fun _ _ _ _ _ _ us hl => match us, hl with | [], _ => rfl
  have Fm := fun_mk (st := sMade) lm com kem
  have bm := Fm.binds (ps := ["which", "thing"]) fun _ _ _ _ _ _ us hl => match us, hl with | [_, _], _ => rfl
  have Fn := fun_mk (st := sPlain) ln con ken
  have bn := Fn.binds (ps := []) fun _ _ _ _ _ _ us hl => match us, hl with | [], _ => rfl
  have Fk := fun_mk (st := sKinds) lk cok kek
  have bk := Fk.binds (ps := ["e"]) fun _ _ _ _ _ _ us hl => match us, hl with | [_], _ => rfl
  have Fl := fun_mk (st := sLaw) ll col kel
  have FS := fun_mk (st := sS) lS coS keS
  have bS := FS.binds (ps := ["self"]) fun _ _ _ _ _ _ us hl => match us, hl with | [_], _ => rfl
  have FBadBoxes := fun_mk (st := sBadBoxes) lBadBoxes coBadBoxes keBadBoxes
  have bBadBoxes := FBadBoxes.binds (ps := ["self", "part"]) fun _ _ _ _ _ _ us hl => match us, hl with | [_, _], _ => rfl
  have FBadBook := fun_mk (st := sBadBook) lBadBook coBadBook keBadBook
  have bBadBook := FBadBook.binds (ps := ["self", "index"]) fun _ _ _ _ _ _ us hl => match us, hl with | [_, _], _ => rfl
  have FTooMany := fun_mk (st := sTooMany) lTooMany coTooMany keTooMany
  have bTooMany := FTooMany.binds (ps := ["self", "most"]) fun _ _ _ _ _ _ us hl => match us, hl with | [_, _], _ => rfl
  have FNotFree := fun_mk (st := sNotFree) lNotFree coNotFree keNotFree
  have bNotFree := FNotFree.binds (ps := ["self", "number"]) fun _ _ _ _ _ _ us hl => match us, hl with | [_, _], _ => rfl
  have FNoLists := fun_mk (st := sNoLists) lNoLists coNoLists keNoLists
  have bNoLists := FNoLists.binds (ps := ["self", "index"]) fun _ _ _ _ _ _ us hl => match us, hl with | [_, _], _ => rfl
  have FNoStep := fun_mk (st := sNoStep) lNoStep coNoStep keNoStep
  have bNoStep := FNoStep.binds (ps := ["self", "number"]) fun _ _ _ _ _ _ us hl => match us, hl with | [_, _], _ => rfl
  have FBadScene := fun_mk (st := sBadScene) lBadScene coBadScene keBadScene
  have bBadScene := FBadScene.binds (ps := ["self", "part"]) fun _ _ _ _ _ _ us hl => match us, hl with | [_, _], _ => rfl
  have FNoScene := fun_mk (st := sNoScene) lNoScene coNoScene keNoScene
  have bNoScene := FNoScene.binds (ps := ["self", "why"]) fun _ _ _ _ _ _ us hl => match us, hl with | [_, _], _ => rfl
  have FNoFilm := fun_mk (st := sNoFilm) lNoFilm coNoFilm keNoFilm
  have bNoFilm := FNoFilm.binds (ps := ["self", "index"]) fun _ _ _ _ _ _ us hl => match us, hl with | [_, _], _ => rfl
  have FBadText := fun_mk (st := sBadText) lBadText coBadText keBadText
  have bBadText := FBadText.binds (ps := ["self", "line"]) fun _ _ _ _ _ _ us hl => match us, hl with | [_, _], _ => rfl
  have FNoName := fun_mk (st := sNoName) lNoName coNoName keNoName
  have bNoName := FNoName.binds (ps := ["self", "name"]) fun _ _ _ _ _ _ us hl => match us, hl with | [_, _], _ => rfl
  have FBarred := fun_mk (st := sBarred) lBarred coBarred keBarred
  have bBarred := FBarred.binds (ps := ["self", "one", "other"]) fun _ _ _ _ _ _ us hl => match us, hl with | [_, _, _], _ => rfl
  refine ⟨PySem.W.fnOf "law" "law" (defArgs sLaw) (defBody sLaw) (defScope sLaw) .none kVl dcl pml anl cdl ctl, fun s v => .of_eq rfl, fun base _ _ => ?_⟩
  have GPo := ok_pool (P := P) (w := w) (base := base) Fp N
  have GDr := ok_draw (P := P) (w := w) (K := K) (base := base) Fd N
  have GDe := ok_deep (P := P) (w := w) (base := base) Fe N
  have GKi := ok_kinds (P := P) (w := w) (base := base) Fk N T
  have GSt := ok_S (P := P) (w := w) (mg := mg) (base := base) FS
  have hI : ∀ j ∈ plainIx, PySem.W.findIn K (.ref ([c0, c1, c2, c3, c4, c5, c6, c7, c8, c9, c10, c11, c12, c13, c14, c15, c16, c17, c18, c19, c20, c21, c22, c23, c24, c25, c26, c27, c28, c29, c30, c31, c32, c33, c34, c35, c36, c37, c38].getD j 0)) "__init__" = some (some (.ref fS)) := (forMem ⟨pl21, (forMem ⟨pl20, (forMem ⟨pl18, (forMem ⟨pl28, (forMem ⟨pl16, (forMem ⟨pl25, (forMem ⟨pl31, (forMem ⟨pl30, (forMem ⟨pl23, (forMem ⟨pl34, (forMem ⟨pl32, (forMem ⟨pl36, (forMem ⟨pl14, (forMem ⟨pl12, (forMem ⟨pl10, (forMem ⟨pl19, (forMem ⟨pl8, (forMem ⟨pl35, (forMem ⟨pl37, (forMem ⟨pl29, (forMem ⟨pl7, (forMem ⟨pl22, (forMem ⟨pl26, (forMem ⟨pl5, (forMem ⟨pl6, (forMem ⟨pl9, (forMem ⟨pl13, (fun x hx => absurd hx List.not_mem_nil)⟩)⟩)⟩)⟩)⟩)⟩)⟩)⟩)⟩)⟩)⟩)⟩)⟩)⟩)⟩)⟩)⟩)⟩)⟩)⟩)⟩)⟩)⟩)⟩)⟩)⟩)⟩)
  have GPl := ok_plain (P := P) (w := w) (base := base) Fn N T GSt bS tiS hI
  have GBadBoxes := ok_BadBoxes (P := P) (w := w) (mg := mg) (base := base) FBadBoxes e1 noBadBoxes_part
  have GBadBook := ok_BadBook (P := P) (w := w) (mg := mg) (base := base) FBadBook e0 noBadBook_index
  have GTooMany := ok_TooMany (P := P) (w := w) (mg := mg) (base := base) FTooMany e38 noTooMany_most
  have GNotFree := ok_NotFree (P := P) (w := w) (mg := mg) (base := base) FNotFree e33 noNotFree_number
  have GNoLists := ok_NoLists (P := P) (w := w) (mg := mg) (base := base) FNoLists e15 noNoLists_index
  have GNoStep := ok_NoStep (P := P) (w := w) (mg := mg) (base := base) FNoStep e27 noNoStep_number
  have GBadScene := ok_BadScene (P := P) (w := w) (mg := mg) (base := base) FBadScene e2 noBadScene_part
  have GNoScene := ok_NoScene (P := P) (w := w) (mg := mg) (base := base) FNoScene e24 noNoScene_why
  have GNoFilm := ok_NoFilm (P := P) (w := w) (mg := mg) (base := base) FNoFilm e11 noNoFilm_index
  have GBadText := ok_BadText (P := P) (w := w) (mg := mg) (base := base) FBadText e3 noBadText_line
  have GNoName := ok_NoName (P := P) (w := w) (mg := mg) (base := base) FNoName e17 noNoName_name
  have GBarred := ok_Barred (P := P) (w := w) (mg := mg) (base := base) FBarred e4 noBarred_one noBarred_other
  have GMa := ok_made (P := P) (w := w) (base := base) Fm N T GBadBoxes bBadBoxes gBadBoxes tiBadBoxes noBadBoxes_part GBadBook bBadBook gBadBook tiBadBook noBadBook_index GTooMany bTooMany gTooMany tiTooMany noTooMany_most GNotFree bNotFree gNotFree tiNotFree noNotFree_number GNoLists bNoLists gNoLists tiNoLists noNoLists_index GNoStep bNoStep gNoStep tiNoStep noNoStep_number GBadScene bBadScene gBadScene tiBadScene noBadScene_part GNoScene bNoScene gNoScene tiNoScene noNoScene_why GNoFilm bNoFilm gNoFilm tiNoFilm noNoFilm_index GBadText bBadText gBadText tiBadText noBadText_line GNoName bNoName gNoName tiNoName noNoName_name GBarred bBarred gBarred tiBarred noBarred_one
  exact ok_law Fl N T GPo ⟨PySem.W.mg_of X G gp, kep, bp⟩ GDr ⟨PySem.W.mg_of X G gd, ked, bd⟩ GDe ⟨PySem.W.mg_of X G ge, kee, be⟩ GMa ⟨PySem.W.mg_of X G gm, kem, bm⟩ GPl ⟨PySem.W.mg_of X G gn, ken, bn⟩ GKi ⟨PySem.W.mg_of X G gk, kek, bk⟩ GBarred bBarred gBarred tiBarred noBarred_other
end My
open PySem PySem.W PyProof.Rows
set_option maxRecDepth 100000 in
set_option maxHeartbeats 8000000 in
theorem PySem.Challenge.cw_fourstrokes_k00_errors_of_the_package_holds : PySem.Challenge.rw_fourstrokes_k00_errors_of_the_package.Holds := by
  w_on; o_law; k_head; (case hw => w_witness2)
  k_fill
  refine GL.walkG (l := PySem.Challenge.rw_fourstrokes_k00_errors_of_the_package) (k := 4) (x := "script") (sp := My.spLaw) rfl (by decide) rfl ⟨rfl, by decide, by decide⟩ (fun w h Y => PySem.W.kIn_of Y) ?F (fun _ _ a ns hl _ hS => ⟨a, ns, rfl, hS, hl, fun _ => rfl⟩)
  case F =>
    intro w mg fa h KX G hmg
    refine' My.all_mk KX G hmg ?q_aS ?q_iS ?q_tS ?q_wn ?q_wt ?q_a0 ?q_e0 ?q_a1 ?q_e1 ?q_a2 ?q_e2 ?q_a3 ?q_e3 ?q_a4 ?q_e4 ?q_a5 ?q_e5 ?q_a6 ?q_e6 ?q_a7 ?q_e7 ?q_a8 ?q_e8 ?q_a9 ?q_e9 ?q_a10 ?q_e10 ?q_a11 ?q_e11 ?q_a12 ?q_e12 ?q_a13 ?q_e13 ?q_a14 ?q_e14 ?q_a15 ?q_e15 ?q_a16 ?q_e16 ?q_a17 ?q_e17 ?q_a18 ?q_e18 ?q_a19 ?q_e19 ?q_a20 ?q_e20 ?q_a21 ?q_e21 ?q_a22 ?q_e22 ?q_a23 ?q_e23 ?q_a24 ?q_e24 ?q_a25 ?q_e25 ?q_a26 ?q_e26 ?q_a27 ?q_e27 ?q_a28 ?q_e28 ?q_a29 ?q_e29 ?q_a30 ?q_e30 ?q_a31 ?q_e31 ?q_a32 ?q_e32 ?q_a33 ?q_e33 ?q_a34 ?q_e34 ?q_a35 ?q_e35 ?q_a36 ?q_e36 ?q_a37 ?q_e37 ?q_a38 ?q_e38 ?q_nd ?q_nS ?q_gp ?q_lp ?q_cop ?q_kep ?q_gd ?q_ld ?q_cod ?q_ked ?q_ge ?q_le ?q_coe ?q_kee ?q_gm ?q_lm ?q_com ?q_kem ?q_gn ?q_ln ?q_con ?q_ken ?q_gk ?q_lk ?q_cok ?q_kek ?q_gl ?q_ll ?q_col ?q_kel ?q_gS ?q_lS ?q_coS ?q_keS ?q_tiS ?q_gBadBoxes ?q_lBadBoxes ?q_coBadBoxes ?q_keBadBoxes ?q_tiBadBoxes ?q_gBadBook ?q_lBadBook ?q_coBadBook ?q_keBadBook ?q_tiBadBook ?q_gTooMany ?q_lTooMany ?q_coTooMany ?q_keTooMany ?q_tiTooMany ?q_gNotFree ?q_lNotFree ?q_coNotFree ?q_keNotFree ?q_tiNotFree ?q_gNoLists ?q_lNoLists ?q_coNoLists ?q_keNoLists ?q_tiNoLists ?q_gNoStep ?q_lNoStep ?q_coNoStep ?q_keNoStep ?q_tiNoStep ?q_gBadScene ?q_lBadScene ?q_coBadScene ?q_keBadScene ?q_tiBadScene ?q_gNoScene ?q_lNoScene ?q_coNoScene ?q_keNoScene ?q_tiNoScene ?q_gNoFilm ?q_lNoFilm ?q_coNoFilm ?q_keNoFilm ?q_tiNoFilm ?q_gBadText ?q_lBadText ?q_coBadText ?q_keBadText ?q_tiBadText ?q_gNoName ?q_lNoName ?q_coNoName ?q_keNoName ?q_tiNoName ?q_gBarred ?q_lBarred ?q_coBarred ?q_keBarred ?q_tiBarred ?q_noBadBoxes_part ?q_noBadBook_index ?q_noTooMany_most ?q_noNotFree_number ?q_noNoLists_index ?q_noNoStep_number ?q_noBadScene_part ?q_noNoScene_why ?q_noNoFilm_index ?q_noBadText_line ?q_noNoName_name ?q_noBarred_one ?q_noBarred_other ?q_pl21 ?q_pl20 ?q_pl18 ?q_pl28 ?q_pl16 ?q_pl25 ?q_pl31 ?q_pl30 ?q_pl23 ?q_pl34 ?q_pl32 ?q_pl36 ?q_pl14 ?q_pl12 ?q_pl10 ?q_pl19 ?q_pl8 ?q_pl35 ?q_pl37 ?q_pl29 ?q_pl7 ?q_pl22 ?q_pl26 ?q_pl5 ?q_pl6 ?q_pl9 ?q_pl13 ?q_z_int ?q_z_sum ?q_z_len ?q_z_abs ?q_z_range ?q_z_isinstance ?q_z_repr ?q_z_set ?q_z_ValueError
    (case q_aS => k_is)
    (case q_iS => k_is)
    (case q_tS => k_is)
    (case q_wn => k_is)
    (case q_wt => k_is)
    (case q_a0 => k_is)
    (case q_e0 => refine' My.ex_of ?xe0_1 ?xe0_2 ?xe0_3 ?xe0_4 ?xe0_5 ?xe0_6 ?xe0_7; (case xe0_1 => k_is); (case xe0_2 => k_is); (case xe0_3 => k_is); (case xe0_4 => k_is); (case xe0_5 => k_is); (case xe0_6 => k_is); (case xe0_7 => k_is))
    (case q_a1 => k_is)
    (case q_e1 => refine' My.ex_of ?xe1_1 ?xe1_2 ?xe1_3 ?xe1_4 ?xe1_5 ?xe1_6 ?xe1_7; (case xe1_1 => k_is); (case xe1_2 => k_is); (case xe1_3 => k_is); (case xe1_4 => k_is); (case xe1_5 => k_is); (case xe1_6 => k_is); (case xe1_7 => k_is))
    (case q_a2 => k_is)
    (case q_e2 => refine' My.ex_of ?xe2_1 ?xe2_2 ?xe2_3 ?xe2_4 ?xe2_5 ?xe2_6 ?xe2_7; (case xe2_1 => k_is); (case xe2_2 => k_is); (case xe2_3 => k_is); (case xe2_4 => k_is); (case xe2_5 => k_is); (case xe2_6 => k_is); (case xe2_7 => k_is))
    (case q_a3 => k_is)
    (case q_e3 => refine' My.ex_of ?xe3_1 ?xe3_2 ?xe3_3 ?xe3_4 ?xe3_5 ?xe3_6 ?xe3_7; (case xe3_1 => k_is); (case xe3_2 => k_is); (case xe3_3 => k_is); (case xe3_4 => k_is); (case xe3_5 => k_is); (case xe3_6 => k_is); (case xe3_7 => k_is))
    (case q_a4 => k_is)
    (case q_e4 => refine' My.ex_of ?xe4_1 ?xe4_2 ?xe4_3 ?xe4_4 ?xe4_5 ?xe4_6 ?xe4_7; (case xe4_1 => k_is); (case xe4_2 => k_is); (case xe4_3 => k_is); (case xe4_4 => k_is); (case xe4_5 => k_is); (case xe4_6 => k_is); (case xe4_7 => k_is))
    (case q_a5 => k_is)
    (case q_e5 => refine' My.ex_of ?xe5_1 ?xe5_2 ?xe5_3 ?xe5_4 ?xe5_5 ?xe5_6 ?xe5_7; (case xe5_1 => k_is); (case xe5_2 => k_is); (case xe5_3 => k_is); (case xe5_4 => k_is); (case xe5_5 => k_is); (case xe5_6 => k_is); (case xe5_7 => k_is))
    (case q_a6 => k_is)
    (case q_e6 => refine' My.ex_of ?xe6_1 ?xe6_2 ?xe6_3 ?xe6_4 ?xe6_5 ?xe6_6 ?xe6_7; (case xe6_1 => k_is); (case xe6_2 => k_is); (case xe6_3 => k_is); (case xe6_4 => k_is); (case xe6_5 => k_is); (case xe6_6 => k_is); (case xe6_7 => k_is))
    (case q_a7 => k_is)
    (case q_e7 => refine' My.ex_of ?xe7_1 ?xe7_2 ?xe7_3 ?xe7_4 ?xe7_5 ?xe7_6 ?xe7_7; (case xe7_1 => k_is); (case xe7_2 => k_is); (case xe7_3 => k_is); (case xe7_4 => k_is); (case xe7_5 => k_is); (case xe7_6 => k_is); (case xe7_7 => k_is))
    (case q_a8 => k_is)
    (case q_e8 => refine' My.ex_of ?xe8_1 ?xe8_2 ?xe8_3 ?xe8_4 ?xe8_5 ?xe8_6 ?xe8_7; (case xe8_1 => k_is); (case xe8_2 => k_is); (case xe8_3 => k_is); (case xe8_4 => k_is); (case xe8_5 => k_is); (case xe8_6 => k_is); (case xe8_7 => k_is))
    (case q_a9 => k_is)
    (case q_e9 => refine' My.ex_of ?xe9_1 ?xe9_2 ?xe9_3 ?xe9_4 ?xe9_5 ?xe9_6 ?xe9_7; (case xe9_1 => k_is); (case xe9_2 => k_is); (case xe9_3 => k_is); (case xe9_4 => k_is); (case xe9_5 => k_is); (case xe9_6 => k_is); (case xe9_7 => k_is))
    (case q_a10 => k_is)
    (case q_e10 => refine' My.ex_of ?xe10_1 ?xe10_2 ?xe10_3 ?xe10_4 ?xe10_5 ?xe10_6 ?xe10_7; (case xe10_1 => k_is); (case xe10_2 => k_is); (case xe10_3 => k_is); (case xe10_4 => k_is); (case xe10_5 => k_is); (case xe10_6 => k_is); (case xe10_7 => k_is))
    (case q_a11 => k_is)
    (case q_e11 => refine' My.ex_of ?xe11_1 ?xe11_2 ?xe11_3 ?xe11_4 ?xe11_5 ?xe11_6 ?xe11_7; (case xe11_1 => k_is); (case xe11_2 => k_is); (case xe11_3 => k_is); (case xe11_4 => k_is); (case xe11_5 => k_is); (case xe11_6 => k_is); (case xe11_7 => k_is))
    (case q_a12 => k_is)
    (case q_e12 => refine' My.ex_of ?xe12_1 ?xe12_2 ?xe12_3 ?xe12_4 ?xe12_5 ?xe12_6 ?xe12_7; (case xe12_1 => k_is); (case xe12_2 => k_is); (case xe12_3 => k_is); (case xe12_4 => k_is); (case xe12_5 => k_is); (case xe12_6 => k_is); (case xe12_7 => k_is))
    (case q_a13 => k_is)
    (case q_e13 => refine' My.ex_of ?xe13_1 ?xe13_2 ?xe13_3 ?xe13_4 ?xe13_5 ?xe13_6 ?xe13_7; (case xe13_1 => k_is); (case xe13_2 => k_is); (case xe13_3 => k_is); (case xe13_4 => k_is); (case xe13_5 => k_is); (case xe13_6 => k_is); (case xe13_7 => k_is))
    (case q_a14 => k_is)
    (case q_e14 => refine' My.ex_of ?xe14_1 ?xe14_2 ?xe14_3 ?xe14_4 ?xe14_5 ?xe14_6 ?xe14_7; (case xe14_1 => k_is); (case xe14_2 => k_is); (case xe14_3 => k_is); (case xe14_4 => k_is); (case xe14_5 => k_is); (case xe14_6 => k_is); (case xe14_7 => k_is))
    (case q_a15 => k_is)
    (case q_e15 => refine' My.ex_of ?xe15_1 ?xe15_2 ?xe15_3 ?xe15_4 ?xe15_5 ?xe15_6 ?xe15_7; (case xe15_1 => k_is); (case xe15_2 => k_is); (case xe15_3 => k_is); (case xe15_4 => k_is); (case xe15_5 => k_is); (case xe15_6 => k_is); (case xe15_7 => k_is))
    (case q_a16 => k_is)
    (case q_e16 => refine' My.ex_of ?xe16_1 ?xe16_2 ?xe16_3 ?xe16_4 ?xe16_5 ?xe16_6 ?xe16_7; (case xe16_1 => k_is); (case xe16_2 => k_is); (case xe16_3 => k_is); (case xe16_4 => k_is); (case xe16_5 => k_is); (case xe16_6 => k_is); (case xe16_7 => k_is))
    (case q_a17 => k_is)
    (case q_e17 => refine' My.ex_of ?xe17_1 ?xe17_2 ?xe17_3 ?xe17_4 ?xe17_5 ?xe17_6 ?xe17_7; (case xe17_1 => k_is); (case xe17_2 => k_is); (case xe17_3 => k_is); (case xe17_4 => k_is); (case xe17_5 => k_is); (case xe17_6 => k_is); (case xe17_7 => k_is))
    (case q_a18 => k_is)
    (case q_e18 => refine' My.ex_of ?xe18_1 ?xe18_2 ?xe18_3 ?xe18_4 ?xe18_5 ?xe18_6 ?xe18_7; (case xe18_1 => k_is); (case xe18_2 => k_is); (case xe18_3 => k_is); (case xe18_4 => k_is); (case xe18_5 => k_is); (case xe18_6 => k_is); (case xe18_7 => k_is))
    (case q_a19 => k_is)
    (case q_e19 => refine' My.ex_of ?xe19_1 ?xe19_2 ?xe19_3 ?xe19_4 ?xe19_5 ?xe19_6 ?xe19_7; (case xe19_1 => k_is); (case xe19_2 => k_is); (case xe19_3 => k_is); (case xe19_4 => k_is); (case xe19_5 => k_is); (case xe19_6 => k_is); (case xe19_7 => k_is))
    (case q_a20 => k_is)
    (case q_e20 => refine' My.ex_of ?xe20_1 ?xe20_2 ?xe20_3 ?xe20_4 ?xe20_5 ?xe20_6 ?xe20_7; (case xe20_1 => k_is); (case xe20_2 => k_is); (case xe20_3 => k_is); (case xe20_4 => k_is); (case xe20_5 => k_is); (case xe20_6 => k_is); (case xe20_7 => k_is))
    (case q_a21 => k_is)
    (case q_e21 => refine' My.ex_of ?xe21_1 ?xe21_2 ?xe21_3 ?xe21_4 ?xe21_5 ?xe21_6 ?xe21_7; (case xe21_1 => k_is); (case xe21_2 => k_is); (case xe21_3 => k_is); (case xe21_4 => k_is); (case xe21_5 => k_is); (case xe21_6 => k_is); (case xe21_7 => k_is))
    (case q_a22 => k_is)
    (case q_e22 => refine' My.ex_of ?xe22_1 ?xe22_2 ?xe22_3 ?xe22_4 ?xe22_5 ?xe22_6 ?xe22_7; (case xe22_1 => k_is); (case xe22_2 => k_is); (case xe22_3 => k_is); (case xe22_4 => k_is); (case xe22_5 => k_is); (case xe22_6 => k_is); (case xe22_7 => k_is))
    (case q_a23 => k_is)
    (case q_e23 => refine' My.ex_of ?xe23_1 ?xe23_2 ?xe23_3 ?xe23_4 ?xe23_5 ?xe23_6 ?xe23_7; (case xe23_1 => k_is); (case xe23_2 => k_is); (case xe23_3 => k_is); (case xe23_4 => k_is); (case xe23_5 => k_is); (case xe23_6 => k_is); (case xe23_7 => k_is))
    (case q_a24 => k_is)
    (case q_e24 => refine' My.ex_of ?xe24_1 ?xe24_2 ?xe24_3 ?xe24_4 ?xe24_5 ?xe24_6 ?xe24_7; (case xe24_1 => k_is); (case xe24_2 => k_is); (case xe24_3 => k_is); (case xe24_4 => k_is); (case xe24_5 => k_is); (case xe24_6 => k_is); (case xe24_7 => k_is))
    (case q_a25 => k_is)
    (case q_e25 => refine' My.ex_of ?xe25_1 ?xe25_2 ?xe25_3 ?xe25_4 ?xe25_5 ?xe25_6 ?xe25_7; (case xe25_1 => k_is); (case xe25_2 => k_is); (case xe25_3 => k_is); (case xe25_4 => k_is); (case xe25_5 => k_is); (case xe25_6 => k_is); (case xe25_7 => k_is))
    (case q_a26 => k_is)
    (case q_e26 => refine' My.ex_of ?xe26_1 ?xe26_2 ?xe26_3 ?xe26_4 ?xe26_5 ?xe26_6 ?xe26_7; (case xe26_1 => k_is); (case xe26_2 => k_is); (case xe26_3 => k_is); (case xe26_4 => k_is); (case xe26_5 => k_is); (case xe26_6 => k_is); (case xe26_7 => k_is))
    (case q_a27 => k_is)
    (case q_e27 => refine' My.ex_of ?xe27_1 ?xe27_2 ?xe27_3 ?xe27_4 ?xe27_5 ?xe27_6 ?xe27_7; (case xe27_1 => k_is); (case xe27_2 => k_is); (case xe27_3 => k_is); (case xe27_4 => k_is); (case xe27_5 => k_is); (case xe27_6 => k_is); (case xe27_7 => k_is))
    (case q_a28 => k_is)
    (case q_e28 => refine' My.ex_of ?xe28_1 ?xe28_2 ?xe28_3 ?xe28_4 ?xe28_5 ?xe28_6 ?xe28_7; (case xe28_1 => k_is); (case xe28_2 => k_is); (case xe28_3 => k_is); (case xe28_4 => k_is); (case xe28_5 => k_is); (case xe28_6 => k_is); (case xe28_7 => k_is))
    (case q_a29 => k_is)
    (case q_e29 => refine' My.ex_of ?xe29_1 ?xe29_2 ?xe29_3 ?xe29_4 ?xe29_5 ?xe29_6 ?xe29_7; (case xe29_1 => k_is); (case xe29_2 => k_is); (case xe29_3 => k_is); (case xe29_4 => k_is); (case xe29_5 => k_is); (case xe29_6 => k_is); (case xe29_7 => k_is))
    (case q_a30 => k_is)
    (case q_e30 => refine' My.ex_of ?xe30_1 ?xe30_2 ?xe30_3 ?xe30_4 ?xe30_5 ?xe30_6 ?xe30_7; (case xe30_1 => k_is); (case xe30_2 => k_is); (case xe30_3 => k_is); (case xe30_4 => k_is); (case xe30_5 => k_is); (case xe30_6 => k_is); (case xe30_7 => k_is))
    (case q_a31 => k_is)
    (case q_e31 => refine' My.ex_of ?xe31_1 ?xe31_2 ?xe31_3 ?xe31_4 ?xe31_5 ?xe31_6 ?xe31_7; (case xe31_1 => k_is); (case xe31_2 => k_is); (case xe31_3 => k_is); (case xe31_4 => k_is); (case xe31_5 => k_is); (case xe31_6 => k_is); (case xe31_7 => k_is))
    (case q_a32 => k_is)
    (case q_e32 => refine' My.ex_of ?xe32_1 ?xe32_2 ?xe32_3 ?xe32_4 ?xe32_5 ?xe32_6 ?xe32_7; (case xe32_1 => k_is); (case xe32_2 => k_is); (case xe32_3 => k_is); (case xe32_4 => k_is); (case xe32_5 => k_is); (case xe32_6 => k_is); (case xe32_7 => k_is))
    (case q_a33 => k_is)
    (case q_e33 => refine' My.ex_of ?xe33_1 ?xe33_2 ?xe33_3 ?xe33_4 ?xe33_5 ?xe33_6 ?xe33_7; (case xe33_1 => k_is); (case xe33_2 => k_is); (case xe33_3 => k_is); (case xe33_4 => k_is); (case xe33_5 => k_is); (case xe33_6 => k_is); (case xe33_7 => k_is))
    (case q_a34 => k_is)
    (case q_e34 => refine' My.ex_of ?xe34_1 ?xe34_2 ?xe34_3 ?xe34_4 ?xe34_5 ?xe34_6 ?xe34_7; (case xe34_1 => k_is); (case xe34_2 => k_is); (case xe34_3 => k_is); (case xe34_4 => k_is); (case xe34_5 => k_is); (case xe34_6 => k_is); (case xe34_7 => k_is))
    (case q_a35 => k_is)
    (case q_e35 => refine' My.ex_of ?xe35_1 ?xe35_2 ?xe35_3 ?xe35_4 ?xe35_5 ?xe35_6 ?xe35_7; (case xe35_1 => k_is); (case xe35_2 => k_is); (case xe35_3 => k_is); (case xe35_4 => k_is); (case xe35_5 => k_is); (case xe35_6 => k_is); (case xe35_7 => k_is))
    (case q_a36 => k_is)
    (case q_e36 => refine' My.ex_of ?xe36_1 ?xe36_2 ?xe36_3 ?xe36_4 ?xe36_5 ?xe36_6 ?xe36_7; (case xe36_1 => k_is); (case xe36_2 => k_is); (case xe36_3 => k_is); (case xe36_4 => k_is); (case xe36_5 => k_is); (case xe36_6 => k_is); (case xe36_7 => k_is))
    (case q_a37 => k_is)
    (case q_e37 => refine' My.ex_of ?xe37_1 ?xe37_2 ?xe37_3 ?xe37_4 ?xe37_5 ?xe37_6 ?xe37_7; (case xe37_1 => k_is); (case xe37_2 => k_is); (case xe37_3 => k_is); (case xe37_4 => k_is); (case xe37_5 => k_is); (case xe37_6 => k_is); (case xe37_7 => k_is))
    (case q_a38 => k_is)
    (case q_e38 => refine' My.ex_of ?xe38_1 ?xe38_2 ?xe38_3 ?xe38_4 ?xe38_5 ?xe38_6 ?xe38_7; (case xe38_1 => k_is); (case xe38_2 => k_is); (case xe38_3 => k_is); (case xe38_4 => k_is); (case xe38_5 => k_is); (case xe38_6 => k_is); (case xe38_7 => k_is))
    (case q_nd => decide +kernel)
    (case q_nS => decide +kernel)
    (case q_gp => k_is)
    (case q_lp => k_is)
    (case q_cop => k_is)
    (case q_kep => k_is)
    (case q_gd => k_is)
    (case q_ld => k_is)
    (case q_cod => k_is)
    (case q_ked => k_is)
    (case q_ge => k_is)
    (case q_le => k_is)
    (case q_coe => k_is)
    (case q_kee => k_is)
    (case q_gm => k_is)
    (case q_lm => k_is)
    (case q_com => k_is)
    (case q_kem => k_is)
    (case q_gn => k_is)
    (case q_ln => k_is)
    (case q_con => k_is)
    (case q_ken => k_is)
    (case q_gk => k_is)
    (case q_lk => k_is)
    (case q_cok => k_is)
    (case q_kek => k_is)
    (case q_gl => k_is)
    (case q_ll => k_is)
    (case q_col => k_is)
    (case q_kel => k_is)
    (case q_gS => k_is)
    (case q_lS => k_is)
    (case q_coS => k_is)
    (case q_keS => k_is)
    (case q_tiS => k_is)
    (case q_gBadBoxes => k_is)
    (case q_lBadBoxes => k_is)
    (case q_coBadBoxes => k_is)
    (case q_keBadBoxes => k_is)
    (case q_tiBadBoxes => k_is)
    (case q_gBadBook => k_is)
    (case q_lBadBook => k_is)
    (case q_coBadBook => k_is)
    (case q_keBadBook => k_is)
    (case q_tiBadBook => k_is)
    (case q_gTooMany => k_is)
    (case q_lTooMany => k_is)
    (case q_coTooMany => k_is)
    (case q_keTooMany => k_is)
    (case q_tiTooMany => k_is)
    (case q_gNotFree => k_is)
    (case q_lNotFree => k_is)
    (case q_coNotFree => k_is)
    (case q_keNotFree => k_is)
    (case q_tiNotFree => k_is)
    (case q_gNoLists => k_is)
    (case q_lNoLists => k_is)
    (case q_coNoLists => k_is)
    (case q_keNoLists => k_is)
    (case q_tiNoLists => k_is)
    (case q_gNoStep => k_is)
    (case q_lNoStep => k_is)
    (case q_coNoStep => k_is)
    (case q_keNoStep => k_is)
    (case q_tiNoStep => k_is)
    (case q_gBadScene => k_is)
    (case q_lBadScene => k_is)
    (case q_coBadScene => k_is)
    (case q_keBadScene => k_is)
    (case q_tiBadScene => k_is)
    (case q_gNoScene => k_is)
    (case q_lNoScene => k_is)
    (case q_coNoScene => k_is)
    (case q_keNoScene => k_is)
    (case q_tiNoScene => k_is)
    (case q_gNoFilm => k_is)
    (case q_lNoFilm => k_is)
    (case q_coNoFilm => k_is)
    (case q_keNoFilm => k_is)
    (case q_tiNoFilm => k_is)
    (case q_gBadText => k_is)
    (case q_lBadText => k_is)
    (case q_coBadText => k_is)
    (case q_keBadText => k_is)
    (case q_tiBadText => k_is)
    (case q_gNoName => k_is)
    (case q_lNoName => k_is)
    (case q_coNoName => k_is)
    (case q_keNoName => k_is)
    (case q_tiNoName => k_is)
    (case q_gBarred => k_is)
    (case q_lBarred => k_is)
    (case q_coBarred => k_is)
    (case q_keBarred => k_is)
    (case q_tiBarred => k_is)
    (case q_noBadBoxes_part => k_is)
    (case q_noBadBook_index => k_is)
    (case q_noTooMany_most => k_is)
    (case q_noNotFree_number => k_is)
    (case q_noNoLists_index => k_is)
    (case q_noNoStep_number => k_is)
    (case q_noBadScene_part => k_is)
    (case q_noNoScene_why => k_is)
    (case q_noNoFilm_index => k_is)
    (case q_noBadText_line => k_is)
    (case q_noNoName_name => k_is)
    (case q_noBarred_one => k_is)
    (case q_noBarred_other => k_is)
    (case q_pl21 => k_is)
    (case q_pl20 => k_is)
    (case q_pl18 => k_is)
    (case q_pl28 => k_is)
    (case q_pl16 => k_is)
    (case q_pl25 => k_is)
    (case q_pl31 => k_is)
    (case q_pl30 => k_is)
    (case q_pl23 => k_is)
    (case q_pl34 => k_is)
    (case q_pl32 => k_is)
    (case q_pl36 => k_is)
    (case q_pl14 => k_is)
    (case q_pl12 => k_is)
    (case q_pl10 => k_is)
    (case q_pl19 => k_is)
    (case q_pl8 => k_is)
    (case q_pl35 => k_is)
    (case q_pl37 => k_is)
    (case q_pl29 => k_is)
    (case q_pl7 => k_is)
    (case q_pl22 => k_is)
    (case q_pl26 => k_is)
    (case q_pl5 => k_is)
    (case q_pl6 => k_is)
    (case q_pl9 => k_is)
    (case q_pl13 => k_is)
    (case q_z_int => k_is)
    (case q_z_sum => k_is)
    (case q_z_len => k_is)
    (case q_z_abs => k_is)
    (case q_z_range => k_is)
    (case q_z_isinstance => k_is)
    (case q_z_repr => k_is)
    (case q_z_set => k_is)
    (case q_z_ValueError => k_is)
