import PyProof.Rows.All
import Wide.All
import OpenK.AllK
import Wide.FinOn
import HandS.ForMost
import HandS.ForExc
import HandS.IsInst
import HandS.CallLocal
import HandS.Wide
import HandS.WideBits
import HandS.Flow
import HandS.EndBits
import HandS.WrittenGet
import PyProof.ReprRoads
import HandS.More
import HandS.Walk
import PyProof.Rows.RegFStrParts
import KE.KSuper
import KE.KExcSuper
import HandS.ExcInit
import HandS.ExcIs
import HandS.ExcField
import KE.KExcIs
import HandS.WordsExc
import KE.RegKSuper
import PySem.Challenge.RW_cellbills_k03_deeds_refused
set_option Elab.async false
set_option linter.all false
set_option maxRecDepth 100000
set_option maxHeartbeats 4000000
/-! What the layer lacks: defs that may ask for a text of a list (they want to know that no such asking is under way), // by any number that is not 0, great powers, calls by keywords alone, repr of data. -/
namespace Cb
open PySem PySem.Spec PyProof.Rows L2

/-! ### numbers -/
def DivAny (_ j : Int) : Prop := j ≠ 0 ∧ j.natAbs.log2 < 9000
def PowAny (i j : Int) : Prop := 0 ≤ j ∧ (Builtin.Int.intBits i : Int) * j ≤ 2 ^ 27
section
variable {X : Cx}
theorem op_fdivA : OpR X (binaryOp .FloorDiv) (rI DivAny fun i j => .int (i.fdiv j)) :=
  opI fun _ _ _ _ _ _ _ hd q => floordiv_int hd.1 q (.inl (PyProof.noPylong_of_log2 hd.2))
theorem op_powA : OpR X (binaryOp .Pow) (rI PowAny fun i j => .int (i ^ j.toNat)) :=
  opI fun _ _ _ _ _ _ _ hd q => pow_int hd.1 hd.2 q
end

/-! ### a text of data -/
@[irreducible] def rRepr (K : PySem.W.Frag) (u : Nat) : List V → Hp → VK → Prop := fun vs H Q =>
  ∃ (v : V) (d : PyData), vs = [v] ∧ Dp K H v d ∧ d.showable = true ∧ d.hasDict = false ∧ u + (d.depth + 1) < cLine ∧ ((∃ i, d = .int i) ∨ d.shown.length ≤ sizeLine) ∧ Q (.str d.shown) H
section
variable {X : Cx}
theorem call_repr (hg : X.A.guards = some []) : CallR X (.builtin "repr") (rRepr X.K X.A.units) := by
  intro pins s σ H vs us Q I rel h
  unfold rRepr at h
  obtain ⟨v, d, rfl, hd, hs, hn, hu, hz, q⟩ := h
  obtain ⟨u, rfl, ru⟩ := vals1 rel
  obtain ⟨as, rd⟩ := Dp.reads I d v u hd ru
  cases hd with
  | non =>
    cases ru
    exact PySem.P.repr_of_none ⟨.str "None", H, I.tok _, ⟨_, rfl⟩, q⟩
  | bl b =>
    cases ru
    exact PySem.P.repr_of_bool ⟨.str (PyData.shown (.bool b)), H, I.tok _, ⟨_, rfl⟩, q⟩
  | int i =>
    obtain ⟨t, rfl⟩ := ru
    have hi : i.natAbs.log2 < 1920 := of_decide_eq_true hs
    exact PySem.P.repr_of_int hi ⟨.str (PyData.shown (.int i)), H, I.tok _, ⟨_, rfl⟩, q⟩
  | str x =>
    obtain ⟨t, rfl⟩ := ru
    exact PySem.P.repr_of_str ⟨.str (PyData.shown (.str x)), H, I.tok _, ⟨_, rfl⟩, q⟩ (hz.resolve_left fun ⟨_, z⟩ => nomatch z)
  | lst e1 e2 =>
    cases ru
    exact repr_of_reads' rd hs (PyData.noDict_hsm hn) hg hu (fun _ _ z => z) (fun h' w tk hk => ⟨.str (PyData.shown _), H, I.kept hk, ⟨_, rfl⟩, q⟩) (hz.resolve_left fun ⟨_, z⟩ => nomatch z)
  | tup e1 e2 =>
    cases ru
    exact repr_of_reads' rd hs (PyData.noDict_hsm hn) hg hu (fun _ _ z => z) (fun h' w tk hk => ⟨.str (PyData.shown _), H, I.kept hk, ⟨_, rfl⟩, q⟩) (hz.resolve_left fun ⟨_, z⟩ => nomatch z)
end

/-! ### defs that want to know what is under way -/
structure FnG (P : Program) (w : World) (K : PySem.W.Frag) (mg : Str → Option Value) (base : Heap) (c : CXT) (k : Nat) (f : Addr) (fd : FuncData) (ps : List Str) (sp : Sp) : Prop where
  long : ∀ vs H Q E, sp vs H Q E → vs.length = ps.length
  goes : ∀ A : Around, A.guards = some [] → Room k A → ∀ (around : List Env) (s : Shared) (H : Hp) (given : Args) (us : List Value) (vs : List V) (Q : VK) (E : XK),
    Env0 P w K mg base A around s H → BindsTo s fd given (ps.zip us) → Vals vs us → sp vs H Q E →
    codeAny (model P w) A (.call (.ref f) given) (CR c around P w H s Q E) s
theorem FnG.up {P : Program} {w : World} {K : PySem.W.Frag} {mg : Str → Option Value} {base : Heap} {c : CXT} {j k : Nat} {f : Addr} {fd : FuncData} {ps : List Str} {sp : Sp}
    (G : FnG P w K mg base c j f fd ps sp) (le : j ≤ k) : FnG P w K mg base c k f fd ps sp :=
  { long := G.long, goes := fun A ga room => G.goes A ga (room.mono le) }
section
variable {X : Cx} {c : CXT} {k : Nat} {f : Addr} {fd : FuncData} {ps : List Str} {sp : Sp} {dvs : List V} {ds : List Value} {E : XK} {x : Str} {p pos : Pos} {e : Expr} {es : List Expr} {t : TA}
theorem runs_g {pins : List (Addr × Obj)} {σ : L2.St} {H : Hp} {s : Shared} {Q : VK} {us : List Value} {vs : List V} (G : FnG X.prog X.w X.K X.mg X.base c k f fd ps sp) (ga : X.A.guards = some []) (room : Room k X.A)
    (bd : Binds X.K fd ps ds) (hd : Vals dvs ds) (out : Passes c X E) (I : Inv X pins σ H s) (rel : Vals vs us) (pr : sp (vs ++ dvs) H Q E) :
    wpAny (model X.prog X.w) X.A (call (.ref f) us) (EP X pins σ Q) X.xe s := by
  have all := rel.append hd
  have many : (us ++ ds).length = ps.length := all.length ▸ G.long _ _ _ _ pr
  refine wpAny_call (codeAny_mono (G.goes X.A ga room X.stack s H ⟨us, []⟩ _ _ Q E I.env0 (bd s us I.kIn many) all pr) ?_)
  intro res s2 got
  match res, got with
  | .error err, got => exact out pins σ H s err s2 I got
  | .ok (.ret u), got => exact I.after got
theorem pe_callG (G : FnG X.prog X.w X.K X.mg X.base c k f fd ps sp) (ga : X.A.guards = some []) (room : Room k X.A) (gl : Gl X x) (mm : X.mg x = some (.ref f)) (kk : PySem.W.keepIn X.K (.ref f) = true)
    (bd : Binds X.K fd ps ds) (hd : Vals dvs ds) (out : Passes c X E) (ha : PA X (e :: es) t) (nd : (x == ("__debug__" : Str)) = false := by decide)
    (se : starEach (e :: es) X.env = (false, eval e X.env) :: starEach es X.env := by rfl) (pl : (backTo pos (starEach es X.env)).any (·.1) = false := by rfl) :
    PE X (.Call (.Name x p) (e :: es) [] pos) (tCall sp dvs E t) := by
  constructor
  intro pins s σ H Q I pr
  refine wpAny_Call_Name_kw (ld_glob I gl mm (PySem.W.callWith_K (h₀ := X.base) I.ok.mod.kin kk ?_ se pl) nd)
  refine thn (ha.run pos pins s σ H _ I pr) ?_
  rintro us s1 ⟨vs, H1, J, rel, pr1⟩
  exact ⟨J.kIn, runs_g G ga room bd hd out J rel pr1⟩
end
/-! f(k = v, ..) -/
section
variable {X : Cx} {c : CXT} {k : Nat} {f : Addr} {fd : FuncData} {ps ks : List Str} {sp : Sp} {E : XK} {x : Str} {p pos : Pos} {kws : List Keyword} {tk : TA} {g : List Value → List Value → List Value} {gV : List V → List V → List V}
theorem pe_callK0 (F : FnOk X.prog X.w X.K X.mg X.base c k f fd ps sp) (room : Room k X.A) (gl : Gl X x) (mm : X.mg x = some (.ref f)) (kk : PySem.W.keepIn X.K (.ref f) = true) (kb : KBinds X.K fd ps ks g gV) (out : Passes c X E) (hk : PK X kws tk)
    (named : (backToKw pos (keywordEach kws X.env)).all (·.1.isSome) = true := by rfl) (names : (backToKw pos (keywordEach kws X.env)).filterMap (·.1) = ks := by rfl) (nd : (x == ("__debug__" : Str)) = false := by decide)
    (pl : ((backTo pos (starEach [] X.env)).any (·.1) || (backToKw pos (keywordEach kws X.env)).any (·.1.isNone)) = false := by rfl) :
    PE X (.Call (.Name x p) [] kws pos) (tCallK sp gV E tNil tk) := by
  constructor
  intro pins s σ H Q I pr
  refine wpAny_Call_Name_kw (ld_glob I gl mm (PySem.W.callWith_KW0 (h₀ := X.base) I.ok.mod.kin kk named ?_ pl) nd)
  refine thn (hk.run pos pins s σ H _ I pr) ?_
  rintro ws s1 ⟨zs, H1, J, rel, pr1⟩
  refine ⟨J.kIn, ?_⟩
  rw [names]
  exact run_fnk (us := []) (vs := []) F room kb out J .nil rel pr1
end
/-- a def of the text that wants to know it -/
theorem fun_g {P : Program} {w : World} {K : PySem.W.Frag} {mg : Str → Option Value} {base : Heap} {c : CXT} {x qual : Str} {st : Stmt} {f : Addr} {fd : FuncData} {N ps : List Str} {k : Nat} {sp : Sp}
    (F : Fun K x qual st f fd) (S : FnScope N ps (defScope st)) (long : ∀ vs H Q E, sp vs H Q E → vs.length = ps.length)
    (body : ∀ (cdv : Value) (A : Around) (around : List Env) (s : Shared) (H : Hp) (vs : List V) (Q : VK) (E : XK), A.guards = some [] → Room k (A.deeper (envOfC qual (defScope st) s.heap.objs.size f cdv)) → sp vs H Q E →
      ∃ t, PSs (cxOf c P w K mg base N qual (defScope st) f cdv A around s H E) (defBody st) t ∧ t { nx := fun _ H' => Q .non H', rt := Q } (start N vs) H) :
    FnG P w K mg base c (k + 1) f fd ps sp := by
  obtain ⟨oc, od, kV, doc, pm, an, cdv, ct, osl, rfl, lk, hcd⟩ := F.ex
  refine ⟨long, ?_⟩
  intro A ga room around s H given us vs Q E z0 bd rel pr
  have KX : K.In s.heap := z0.mod.kin.keeps fun b o q => (z0.bs b o q).1
  have lim : s.heap.NoLimit := z0.mod.nolimit.keeps fun b o q => (z0.bs b o q).1
  have where_ : ∀ y ∈ ps.zip us, (defScope st).names.lookup y.1 = some .local ∨ ((defScope st).names.lookup y.1 = some .cell ∧ ((cellsFrom (s.heap.objs.size + 1) (defScope st).names []).lookup y.1).isSome = true) := by
    rintro ⟨n, v⟩ hy
    exact (S.par n (List.of_mem_zip hy).1).imp_right fun q => ⟨q, PySem.W.cellsFrom_some _ _ _ (.inl q)⟩
  refine codeAny_call_function room.depth (KX _ _ lk) rfl S.co S.gen rfl (PySem.W.codeRec_of KX hcd) (bd _ _ _ _ (wpAny_newFunctionEnv_cells S.kind where_ ?_))
  rintro env rfl s1 fresh
  refine ⟨lim.keeps fresh.toInCall.keep, codeAny_func ?_⟩
  obtain ⟨t, ht, hq⟩ := body cdv A around s H vs Q E ga (room.deeper _) pr
  have J : Inv (cxOf c P w K mg base N qual (defScope st) f cdv A around s H E) [] (start N vs) H s1 := inv_start S room.hd z0 (long _ _ _ _ pr) rel fresh
  refine wpAny_mono (ht.run [] s1 (start N vs) H _ J hq) ?_ (fun _ _ z => z)
  intro fl s2 got
  match fl, got with
  | .ret u, ⟨v, σ2, H2, L, rv, q⟩ => exact ⟨v, H2, L.os, L.bare, L.base, L.hok, rv, q⟩
  | .next, ⟨σ2, H2, L, q⟩ => exact ⟨V.non, H2, L.os, L.bare, L.base, L.hok, rfl, q⟩
  | .brk, ⟨_, _, _, q⟩ => exact q.elim
  | .cont, ⟨_, _, _, q⟩ => exact q.elim
end Cb
set_option Elab.async false
set_option linter.all false
set_option maxRecDepth 100000
set_option maxHeartbeats 4000000
namespace Cb
open PySem PySem.Spec PyProof.Rows L2
section
variable {P : Program} {w : World} {K : PySem.W.Frag} {mg mb : Str → Option Value} {k : Nat} {fa a : Addr} {fd : FuncData} {x : Str} {sp : Sp} {s : Shared} {vs : List Value} {ns : List Int}
/-- the law's def, called with the script, from an abstract heap that knows at most the script -/
theorem enters (H : Hp) (ob : Obj) (eo : ob = { cls := .type "list", data := .seq vs.toArray }) (H1 : ∀ b u, H b = some u → b = a ∧ u = .frz ob (.lst (ns.map V.int)) ∧ K.lookup a = none) (hS : SqL K H a (ns.map V.int)) (hok : HOk P w H s.heap)
    (KX : K.In s.heap) (g1 : s.heap.Ns mainGlobals mg) (g2 : s.heap.Ns builtinsNs mb) (g3 : ∀ x : Str, x ≠ "__name__" → mb x = bootBuiltins x) (g4 : s.heap.NoLimit) (g5 : s.gens = #[])
    (at_ : s.heap.get? a = some ob) (room : Room k callerA)
    (G : ∀ base : Heap, K.In base → base.Ns mainGlobals mg → FnG P w K mg base CX0 k fa fd [x] sp) (bd : ∀ (s : Shared) (u : Value), BindsTo s fd ⟨[u], []⟩ [(x, u)])
    (pr : sp [.ref a] H (fun v _ => v = .bl true) fun _ _ _ => False) :
    codeAny (model P w) callerA (.call (.ref fa) ⟨[.ref a], []⟩) (fun r s' => r = .ok (.ret (.bool true)) ∧ OldK s.heap s'.heap ∧ s'.os = s.os ∧ AllBare s'.gens) s := by
  have off : ∀ {b : Addr} {o : Obj}, s.heap.get? b = some o → o ≠ ob → H b = none := by
    intro b o e ne
    cases z : H b with
    | none => rfl
    | some u =>
      obtain ⟨rfl, _, _⟩ := H1 b u z
      exact absurd (Option.some.inj (e.symm.trans at_)) ne
  have offD : ∀ {b : Addr} {o : Obj} {es : Array DictEntry} {ep : Nat}, s.heap.get? b = some o → o.data = .dict es ep → H b = none := fun {b o es ep} e d => off e (by
    rintro rfl
    rw [eo] at d
    cases d)
  have hid : ∀ {b : Addr} {m : Str → Option Value}, s.heap.Ns b m → (hidT s.heap H).Ns b m := by
    rintro b m ⟨o, es, ep, e, d, r⟩
    exact ⟨o, es, ep, hidT_get e (offD e d), d, r⟩
  have KB : K.In (hidT s.heap H) := by
    intro b o e
    refine hidT_get (KX b o e) ?_
    cases z : H b with
    | none => rfl
    | some u =>
      obtain ⟨rfl, _, no⟩ := H1 b u z
      rw [no] at e
      cases e
  obtain ⟨mc, l1, l2⟩ := g4
  have z0 : Env0 P w K mg (hidT s.heap H) callerA [] s H :=
    { frames := rfl, mod := ⟨KB, hid g1, ⟨mb, hid g2, g3⟩, ⟨mc, hid l1, l2⟩⟩, bs := fun b o e => of_hidT e, bsz := Nat.le_of_eq (hidT_size _ _), funs := trivial
      frf := fun b hb => absurd (show b ∈ ([] : List Addr) from hb) List.not_mem_nil, hok := hok, bare := .of_eq g5 }
  refine codeAny_mono ((G _ KB (hid g1)).goes callerA rfl room [] s H ⟨[.ref a], []⟩ [.ref a] [.ref a] _ _ z0 (bd s (.ref a)) (.cons rfl .nil) pr) ?_
  intro res s2 got
  match res, got with
  | .ok (.ret u), got =>
    obtain ⟨v, H', os, bare, un, hok', rv, ev⟩ := got
    obtain rfl : v = V.bl true := ev
    obtain rfl : u = Value.bool true := rv
    refine ⟨rfl, OldK.of_keep ?_, os, bare⟩
    intro b o e
    cases z : H b with
    | none => exact un.keep b o e z (fun q => absurd (show b ∈ ([] : List Addr) from q) List.not_mem_nil) (by simp)
    | some u =>
      obtain ⟨rfl, rfl, _⟩ := H1 b u z
      have z2 := un.frzs b ob _ z
      obtain ⟨q1, _⟩ := hok b _ z
      obtain ⟨q2, _⟩ := hok' b _ z2
      exact (Option.some.inj (e.symm.trans q1)) ▸ q2
theorem enter (hobj : s.heap.get? a = some { cls := .type "list", data := .seq vs.toArray }) (hi : IntsAre vs ns) (hl : ns.length ≤ sizeLine)
    (KX : K.In s.heap) (g1 : s.heap.Ns mainGlobals mg) (g2 : s.heap.Ns builtinsNs mb) (g3 : ∀ x : Str, x ≠ "__name__" → mb x = bootBuiltins x) (g4 : s.heap.NoLimit) (g5 : s.gens = #[]) (room : Room k callerA)
    (G : ∀ base : Heap, K.In base → base.Ns mainGlobals mg → FnG P w K mg base CX0 k fa fd [x] sp) (bd : ∀ (s : Shared) (u : Value), BindsTo s fd ⟨[u], []⟩ [(x, u)])
    (pr : ∀ H : Hp, SqL K H a (ns.map V.int) → sp [.ref a] H (fun v _ => v = .bl true) fun _ _ _ => False) :
    codeAny (model P w) callerA (.call (.ref fa) ⟨[.ref a], []⟩) (fun r s' => r = .ok (.ret (.bool true)) ∧ OldK s.heap s'.heap ∧ s'.os = s.os ∧ AllBare s'.gens) s := by
  have rel := vals_ints hi
  cases hk : K.lookup a with
  | some o =>
    have same := Option.some.inj ((KX a o hk).symm.trans hobj)
    have hS : SqL K (fun _ => none) a (ns.map V.int) := .inr ⟨o, vs.toArray, _, hk, by rw [same], by rw [same], by rw [same], by rw [List.size_toArray, hi.length]; exact hl, rel⟩
    exact enters (fun _ => none) _ rfl (fun b u z => nomatch (show (none : Option HO) = some u from z)) hS (fun b u z => nomatch (show (none : Option HO) = some u from z)) KX g1 g2 g3 g4 g5 hobj room G bd (pr _ hS)
  | none =>
    let ob : Obj := { cls := .type "list", data := .seq vs.toArray }
    let H : Hp := fun b => if b = a then some (.frz ob (.lst (ns.map V.int))) else none
    have H1 : ∀ b u, H b = some u → b = a ∧ u = .frz ob (.lst (ns.map V.int)) ∧ K.lookup a = none := by
      intro b u z
      by_cases q : b = a
      · exact ⟨q, (Option.some.inj ((if_pos q).symm.trans z)).symm, hk⟩
      · exact nomatch ((if_neg q).symm.trans z : (none : Option HO) = some u)
    have hS : SqL K H a (ns.map V.int) := .inl (.inr ⟨ob, if_pos rfl⟩)
    refine enters H ob rfl H1 hS ?_ KX g1 g2 g3 g4 g5 hobj room G bd (pr _ hS)
    intro b u z
    obtain ⟨rfl, rfl, _⟩ := H1 b u z
    exact ⟨hobj, by rw [List.length_map]; exact hl, vs, _, rel, hobj⟩
end
/-- the goal that k_head leaves, for a law's def that wants to know what is under way; the script's ints with their bits -/
theorem walk_g {l : PySem.W.OpenLaw} {n k : Nat} {q : Program} {loose : List Str} {XP : (Str → Option Value) → Heap → Prop} {YP : World → Heap → Prop} {d : DefRec} {K : Params → PySem.W.Frag} {sp : PySem.W.Frag → Sp} {x : Str}
    (hn : l.most = some n) (small : n ≤ sizeLine) (plain : d.params.defaults = []) (room : Room k callerA) (hK : ∀ (w : World) (h : Heap), YP w h → (K w.params).In h)
    (G : ∀ (w : World) (mg : Str → Option Value) (fa : Addr) (h : Heap), (K w.params).In h → h.Ns mainGlobals mg → mg d.name = some (.ref fa) →
      ∃ fd : FuncData, (∀ (s : Shared) (u : Value), BindsTo s fd ⟨[u], []⟩ [(x, u)]) ∧ ∀ base : Heap, (K w.params).In base → base.Ns mainGlobals mg → FnG l.prog w (K w.params) mg base CX0 k fa fd [x] (sp (K w.params)))
    (pr : ∀ (K : PySem.W.Frag) (H : Hp) (a : Addr) (ns : List Int), ns.length ≤ n → (∀ i ∈ ns, Builtin.Int.intBits i ≤ 1048576) → SqL K H a (ns.map V.int) → sp K [.ref a] H (fun v _ => v = .bl true) fun _ _ _ => False) :
    PySem.W.WalkO q loose XP YP l.row.toRowW d [] (fun f vs => PySem.call f vs) := by
  refine Att.attach_callB hn plain ?_
  intro w s0 s mg mb fa o pm cd doc a vs ns A Y _ _ _ hmg hobj hints hlen hbits hg
  have KX := hK w _ Y
  obtain ⟨fd, bd, GG⟩ := G w mg fa _ KX A.T.g hmg
  exact enter hobj hints (Nat.le_trans hlen small) KX A.T.g A.T.b A.T.builtins A.T.nolimit hg room GG bd fun H hS => pr _ H a ns hlen hbits hS
end Cb
set_option Elab.async false
set_option linter.all false
set_option maxRecDepth 100000
set_option maxHeartbeats 4000000
namespace Cb
open PySem PySem.Spec PyProof.Rows L2
/-- a def stands under its name -/
def Has (K : PySem.W.Frag) (mg : Str → Option Value) (x : Str) (st : Stmt) (ps : List Str) : Prop :=
  ∃ (f : Addr) (fd : FuncData), Fun K x x st f fd ∧ mg x = some (.ref f) ∧ Binds K fd ps []
/-- it keeps a promise -/
def Says (P : Program) (w : World) (K : PySem.W.Frag) (mg : Str → Option Value) (base : Heap) (k : Nat) (x : Str) (ps : List Str) (sp : Sp) : Prop :=
  ∃ (f : Addr) (fd : FuncData), FnOk P w K mg base CX0 k f fd ps sp ∧ mg x = some (.ref f) ∧ PySem.W.keepIn K (.ref f) = true ∧ Binds K fd ps []
def SaysG (P : Program) (w : World) (K : PySem.W.Frag) (mg : Str → Option Value) (base : Heap) (k : Nat) (x : Str) (ps : List Str) (sp : Sp) : Prop :=
  ∃ (f : Addr) (fd : FuncData), FnG P w K mg base CX0 k f fd ps sp ∧ mg x = some (.ref f) ∧ PySem.W.keepIn K (.ref f) = true ∧ Binds K fd ps []
/-- also by keywords alone, in an order of their own: g puts them in the parameters' order -/
def kOnly (g : {α : Type} → List α → List α) : {α : Type} → List α → List α → List α
  | _, [], ws => g ws
  | _, _ :: _, _ => []
def SaysK (P : Program) (w : World) (K : PySem.W.Frag) (mg : Str → Option Value) (base : Heap) (k : Nat) (x : Str) (ps ks : List Str) (g : {α : Type} → List α → List α) (sp : Sp) : Prop :=
  ∃ (f : Addr) (fd : FuncData), FnOk P w K mg base CX0 k f fd ps sp ∧ mg x = some (.ref f) ∧ PySem.W.keepIn K (.ref f) = true ∧ KBinds K fd ps ks (kOnly g) (kOnly g)
def HasK (K : PySem.W.Frag) (mg : Str → Option Value) (x : Str) (st : Stmt) (ps ks : List Str) (g : {α : Type} → List α → List α) : Prop :=
  ∃ (f : Addr) (fd : FuncData), Fun K x x st f fd ∧ mg x = some (.ref f) ∧ KBinds K fd ps ks (kOnly g) (kOnly g)
/-- a def's body keeps a promise -/
abbrev Body (P : Program) (w : World) (K : PySem.W.Frag) (mg : Str → Option Value) (base : Heap) (k : Nat) (x : Str) (st : Stmt) (N : List Str) (sp : Sp) : Prop :=
  ∀ (f : Addr) (cdv : Value) (A : Around) (outer : List Env) (s : Shared) (H : Hp) (vs : List V) (Q : VK) (E : XK), Room k (A.deeper (envOfC x (defScope st) s.heap.objs.size f cdv)) → sp vs H Q E →
      ∃ t, PSs (cxOf CX0 P w K mg base N x (defScope st) f cdv A outer s H E).nox (defBody st) t ∧ t { nx := fun _ H' => Q .non H', rt := Q } (start N vs) H
section
variable {P : Program} {w : World} {K : PySem.W.Frag} {mg : Str → Option Value} {base : Heap} {k : Nat} {x : Str} {st : Stmt} {N ps : List Str} {sp : Sp}
theorem has {f : Addr} {oc : Value} {od an : Option Addr} {osl : Array (Option Value)} {kV doc pm cdv ct : Value} {h : Heap} (X : K.In h) (G : h.Ns mainGlobals mg) (a : PySem.W.nsIn K mainGlobals x = some (some (.ref f)))
    (l : K.lookup f = some ⟨oc, od, .func (PySem.W.fnOf x x (defArgs st) (defBody st) (defScope st) .none kV doc pm an cdv ct), osl⟩) (c : PySem.W.codeIn K cdv x = true) (kp : PySem.W.keepIn K (.ref f) = true)
    (b : ∀ (kV doc pm : Value) (an : Option Addr) (cdv ct : Value) (us : List Value), us.length = ps.length → bindArgs (PySem.W.fnOf x x (defArgs st) (defBody st) (defScope st) .none kV doc pm an cdv ct) ⟨us, []⟩ = pure (ps.zip us)) :
    Has K mg x st ps := ⟨f, _, fun_mk l c kp, PySem.W.mg_of X G a, (fun_mk l c kp).binds b⟩
theorem says (h : Has K mg x st ps) (S : FnScope N ps (defScope st)) (len : ∀ vs H Q E, sp vs H Q E → vs.length = ps.length)
    (body : ∀ (f : Addr) (cdv : Value) (A : Around) (outer : List Env) (s : Shared) (H : Hp) (vs : List V) (Q : VK) (E : XK), Room k (A.deeper (envOfC x (defScope st) s.heap.objs.size f cdv)) → sp vs H Q E →
      ∃ t, PSs (cxOf CX0 P w K mg base N x (defScope st) f cdv A outer s H E).nox (defBody st) t ∧ t { nx := fun _ H' => Q .non H', rt := Q } (start N vs) H) : Says P w K mg base (k + 1) x ps sp := by
  obtain ⟨f, fd, F, hm, b⟩ := h
  exact ⟨f, fd, F.ok S len fun cdv A outer s H vs Q E => body f cdv A outer s H vs Q E, hm, F.kp, b⟩
theorem saysK {ks : List Str} {g : {α : Type} → List α → List α} (h : HasK K mg x st ps ks g) (S : FnScope N ps (defScope st)) (len : ∀ vs H Q E, sp vs H Q E → vs.length = ps.length) (body : Body P w K mg base k x st N sp) : SaysK P w K mg base (k + 1) x ps ks g sp := by
  obtain ⟨f, fd, F, hm, b⟩ := h
  exact ⟨f, fd, F.ok S len fun cdv A outer s H vs Q E => body f cdv A outer s H vs Q E, hm, F.kp, b⟩
/-- one, and two turned about -/
theorem kb1 {fd : FuncData} {p : Str} (h : ∀ v : Value, bindArgs fd ⟨[], [(p, v)]⟩ = pure [(p, v)]) : KBinds K fd [p] [p] (kOnly fun l => l) (kOnly fun l => l) where
  to := fun s us ws _ hl => match us, ws, hl with
    | [], [v], _ => .of_eq (h v)
  rel := fun {vs us zs ws} r1 r2 => by
    cases r1 with
    | nil => exact r2
    | cons _ _ => exact .nil
theorem vals_rev {vs : List V} {us : List Value} (r : Vals vs us) : Vals vs.reverse us.reverse := by
  induction r with
  | nil => exact .nil
  | cons h _ ih =>
    rw [List.reverse_cons, List.reverse_cons]
    exact ih.append (.cons h .nil)
theorem kb2 {fd : FuncData} {p q : Str} (h : ∀ u v : Value, bindArgs fd ⟨[], [(q, u), (p, v)]⟩ = pure [(p, v), (q, u)]) : KBinds K fd [p, q] [q, p] (kOnly List.reverse) (kOnly List.reverse) where
  to := fun s us ws _ hl => match us, ws, hl with
    | [], [u, v], _ => .of_eq (h u v)
    | [], [], hl => nomatch hl
    | [], [_], hl => nomatch hl
    | [], _ :: _ :: _ :: _, hl => by
      have z : (List.reverse (_ :: _ :: _ :: _) : List Value).length = 2 := hl
      rw [List.length_reverse] at z
      simp at z
  rel := fun {vs us zs ws} r1 r2 => by
    cases r1 with
    | nil => exact vals_rev r2
    | cons _ _ => exact .nil
theorem hasK {ks : List Str} {gk : {α : Type} → List α → List α} {f : Addr} {oc : Value} {od an : Option Addr} {osl : Array (Option Value)} {kV doc pm cdv ct : Value} {h : Heap} (X : K.In h) (G : h.Ns mainGlobals mg) (a : PySem.W.nsIn K mainGlobals x = some (some (.ref f)))
    (l : K.lookup f = some ⟨oc, od, .func (PySem.W.fnOf x x (defArgs st) (defBody st) (defScope st) .none kV doc pm an cdv ct), osl⟩) (c : PySem.W.codeIn K cdv x = true) (kp : PySem.W.keepIn K (.ref f) = true)
    (b : KBinds K (PySem.W.fnOf x x (defArgs st) (defBody st) (defScope st) .none kV doc pm an cdv ct) ps ks (kOnly gk) (kOnly gk)) :
    HasK K mg x st ps ks gk := ⟨f, _, fun_mk l c kp, PySem.W.mg_of X G a, b⟩
theorem saysG (h : Has K mg x st ps) (S : FnScope N ps (defScope st)) (len : ∀ vs H Q E, sp vs H Q E → vs.length = ps.length)
    (body : ∀ (f : Addr) (cdv : Value) (A : Around) (outer : List Env) (s : Shared) (H : Hp) (vs : List V) (Q : VK) (E : XK), A.guards = some [] → Room k (A.deeper (envOfC x (defScope st) s.heap.objs.size f cdv)) → sp vs H Q E →
      ∃ t, PSs (cxOf CX0 P w K mg base N x (defScope st) f cdv A outer s H E).nox (defBody st) t ∧ t { nx := fun _ H' => Q .non H', rt := Q } (start N vs) H) : SaysG P w K mg base (k + 1) x ps sp := by
  obtain ⟨f, fd, F, hm, b⟩ := h
  exact ⟨f, fd, fun_g F S len fun cdv A outer s H vs Q E ga hr h => (body f cdv A outer s H vs Q E ga hr h).imp fun _ z => ⟨z.1.nox, z.2⟩, hm, F.kp, b⟩
theorem fnG {f : Addr} {fd : FuncData} (F : Fun K x x st f fd) (S : FnScope N ps (defScope st)) (len : ∀ vs H Q E, sp vs H Q E → vs.length = ps.length)
    (body : ∀ (f : Addr) (cdv : Value) (A : Around) (outer : List Env) (s : Shared) (H : Hp) (vs : List V) (Q : VK) (E : XK), A.guards = some [] → Room k (A.deeper (envOfC x (defScope st) s.heap.objs.size f cdv)) → sp vs H Q E →
      ∃ t, PSs (cxOf CX0 P w K mg base N x (defScope st) f cdv A outer s H E).nox (defBody st) t ∧ t { nx := fun _ H' => Q .non H', rt := Q } (start N vs) H) : FnG P w K mg base CX0 (k + 1) f fd ps sp :=
  fun_g F S len fun cdv A outer s H vs Q E ga hr h => (body f cdv A outer s H vs Q E ga hr h).imp fun _ z => ⟨z.1.nox, z.2⟩
theorem Says.imp {sp' : Sp} (c : Says P w K mg base k x ps sp) (h : ∀ vs H Q E, sp' vs H Q E → sp vs H Q E) : Says P w K mg base k x ps sp' := by
  obtain ⟨f, fd, F, hm, kp, b⟩ := c
  exact ⟨f, fd, F.imp h, hm, kp, b⟩
end
section
variable {X : Cx} {k j : Nat} {x : Str} {ps ks : List Str} {sp : Sp} {p pos : Pos} {e : Expr} {es : List Expr} {t tk : TA} {kws : List Keyword} {g : {α : Type} → List α → List α}
theorem pe_s (c : Says X.prog X.w X.K X.mg X.base k x ps sp) (hr : Room j X.A) (ha : PA X (e :: es) t) (le : k ≤ j := by decide) (gl : Gl X x := by rfl) (nd : (x == ("__debug__" : Str)) = false := by decide)
    (se : starEach (e :: es) X.env = (false, eval e X.env) :: starEach es X.env := by rfl) (pl : (backTo pos (starEach es X.env)).any (·.1) = false := by rfl) : PE X (.Call (.Name x p) (e :: es) [] pos) (tCall sp [] E0 t) := by
  obtain ⟨f, fd, F, hm, kp, b⟩ := c
  exact pe_call F (hr.mono le) gl hm kp b .nil pass0 ha nd se pl
theorem pe_g (c : SaysG X.prog X.w X.K X.mg X.base k x ps sp) (ga : X.A.guards = some []) (hr : Room j X.A) (ha : PA X (e :: es) t) (le : k ≤ j := by decide) (gl : Gl X x := by rfl) (nd : (x == ("__debug__" : Str)) = false := by decide)
    (se : starEach (e :: es) X.env = (false, eval e X.env) :: starEach es X.env := by rfl) (pl : (backTo pos (starEach es X.env)).any (·.1) = false := by rfl) : PE X (.Call (.Name x p) (e :: es) [] pos) (tCall sp [] E0 t) := by
  obtain ⟨f, fd, F, hm, kp, b⟩ := c
  exact pe_callG F ga (hr.mono le) gl hm kp b .nil pass0 ha nd se pl
theorem pe_k0 (c : SaysK X.prog X.w X.K X.mg X.base k x ps ks g sp) (hr : Room j X.A) (hk : PK X kws tk) (le : k ≤ j := by decide) (gl : Gl X x := by rfl)
    (named : (backToKw pos (keywordEach kws X.env)).all (·.1.isSome) = true := by rfl) (names : (backToKw pos (keywordEach kws X.env)).filterMap (·.1) = ks := by rfl) (nd : (x == ("__debug__" : Str)) = false := by decide)
    (pl : ((backTo pos (starEach [] X.env)).any (·.1) || (backToKw pos (keywordEach kws X.env)).any (·.1.isNone)) = false := by rfl) : PE X (.Call (.Name x p) [] kws pos) (tCallK sp (kOnly g) E0 tNil tk) := by
  obtain ⟨f, fd, F, hm, kp, b⟩ := c
  exact pe_callK0 F (hr.mono le) gl hm kp b pass0 hk named names nd pl
end
/-! ### heaps -/
theorem upd_self {H : Hp} {a : Addr} {o : HO} (h : H a = some o) : upd H a o = H := by
  funext b
  by_cases q : b = a
  · rw [q, upd_same, h]
  · rw [upd_ne q]
theorem same_new {H : Hp} {p : Addr} {o : HO} (h : H p = none) : Same H (upd H p o) := fun b u e => by
  rw [upd_ne (ne_of_none e h)]
  exact e
end Cb
set_option Elab.async false
set_option linter.all false
set_option maxRecDepth 100000
set_option maxHeartbeats 4000000
namespace Cb
open PySem PySem.Spec PyProof.Rows L2
def topS (i : Nat) : Stmt := PySem.Challenge.pw_cellbills_k03_deeds_refused.main.body.getD i (.Pass ⟨0, 0, 0, 0⟩)
abbrev s_l_hash : Stmt := topS 28
theorem sc_l_hash : FnScope ["_law_seed", "_law_index", "_law_mixed"] ["_law_seed", "_law_index"] (defScope s_l_hash) := ⟨rfl, rfl, rfl, by decide +kernel, rfl, by decide +kernel, by decide +kernel⟩
abbrev s_l_random : Stmt := topS 29
theorem sc_l_random : FnScope ["_law_generator_here", "_law_bound", "_law_drawn", "_law_turn"] ["_law_generator_here", "_law_bound"] (defScope s_l_random) := ⟨rfl, rfl, rfl, by decide +kernel, rfl, by decide +kernel, by decide +kernel⟩
abbrev s_l_cell : Stmt := topS 30
theorem sc_l_cell : FnScope ["_law_script", "_law_index"] ["_law_script", "_law_index"] (defScope s_l_cell) := ⟨rfl, rfl, rfl, by decide +kernel, rfl, by decide +kernel, by decide +kernel⟩
abbrev s_l_generator : Stmt := topS 31
theorem sc_l_generator : FnScope ["_law_script", "_law_index", "_law_seed"] ["_law_script", "_law_index"] (defScope s_l_generator) := ⟨rfl, rfl, rfl, by decide +kernel, rfl, by decide +kernel, by decide +kernel⟩
structure TGen (K : PySem.W.Frag) (mg : Str → Option Value) : Prop where
  d_l_hash : Has K mg "_law_hash" s_l_hash ["_law_seed", "_law_index"]
  d_l_random : Has K mg "_law_random" s_l_random ["_law_generator_here", "_law_bound"]
  d_l_cell : Has K mg "_law_cell" s_l_cell ["_law_script", "_law_index"]
  d_l_generator : Has K mg "_law_generator" s_l_generator ["_law_script", "_law_index"]
  b_int : mg "int" = none
  b_range : mg "range" = none
  b_len : mg "len" = none
  b_sum : mg "sum" = none
  b_max : mg "max" = none
/-- a generator: three numbers -/
def gen (a s t : Int) : HO := .lst [.int a, .int s, .int t]
local macro_rules | `(tactic| walk_at "rd1") => `(tactic| first
  | with_reducible_and_instances refine ⟨_, rfl, ?_⟩
  | refine ⟨_, rfl, ?_⟩
  | refine ⟨_, _, rfl, rfl, ?_⟩
  | refine .inl ⟨_, rfl, ?_⟩
  | (refine ⟨by first | decide | omega | exact .inl (by decide) | exact .inr (by decide) | exact .inl (by omega) | exact .inr (by omega) | exact ⟨by decide, by decide⟩, ?_⟩))
local macro_rules | `(tactic| walk_at "rd") => `(tactic| repeat walk_at "rd1")
section
variable {P : Program} {w : World} {K : PySem.W.Frag} {mg : Str → Option Value} {base : Heap}
def sp_l_hash : Sp := fun vs H Q _ => ∃ s i : Int, vs = [.int s, .int i] ∧ 0 ≤ i ∧ i < 2 ^ 63 ∧ ∀ r : Int, Q (.int r) H
theorem mod_in {m b : Int} (h : 0 < b) : 0 ≤ m % b ∧ m % b < b := ⟨Int.emod_nonneg _ (by omega), Int.emod_lt_of_pos _ h⟩
theorem cut_first (ns : List Int) : cutV (ns.map V.int) none (some 1) = (ns.take 1).map V.int := by
  unfold cutV
  rw [show HT.sIx (ns.map V.int).length 0 none = 0 from HT.sIx_none _ _, show HT.sIx (ns.map V.int).length (ns.map V.int).length (some 1) = min 1 (ns.map V.int).length from HT.sIx_nat _ _ 1]
  cases ns with
  | nil => rfl
  | cons x r => simp
theorem c_l_hash (T : TGen K mg) : Says P w K mg base 1 "_law_hash" ["_law_seed", "_law_index"] sp_l_hash := by
  refine says T.d_l_hash sc_l_hash (fun vs H Q E h => ?_) (fun f cdv A outer s H vs Q E hr h => ?_)
  · obtain ⟨_, _, rfl, _⟩ := h; rfl
  · refine ⟨_, (pss_cons (ps_set (i := 2) sc_l_hash.nd rfl (.inl rfl) (pe_op op_mod (pe_callTy call_int1 (by rfl) T.b_int (by decide +kernel) (pa_cons (pe_op op_add (pe_op op_add (pe_op op_add (pe_op op_mul (pv 0) pe_int) (pe_op op_mul (pe_op op_mul pe_int (pv 1)) (pv 1))) (pe_op op_mul pe_int (pv 1))) pe_int) pa_nil)) pe_int))
      (pss_cons (ps_set (i := 2) sc_l_hash.nd rfl (.inl rfl) (pe_op op_mod (pe_callTy call_int1 (by rfl) T.b_int (by decide +kernel) (pa_cons (pe_op op_add (pe_op op_add (pe_op op_mul (pv 2) (pv 2)) (pe_op op_mul pe_int (pv 1))) pe_int) pa_nil)) pe_int))
      (pss_one (ps_ret (pe_op op_mod (pe_callTy call_int1 (by rfl) T.b_int (by decide +kernel) (pa_cons (pe_op op_mul (pv 2) pe_int) pa_nil)) pe_int))))), ?_⟩
    obtain ⟨s, i, rfl, h0, h1, q⟩ := h
    walk_at "rd"
    have hm := @mod_in (s * 1140671 + 27644437 * i * i + 131 * i + 19) 2147483629 (by decide)
    generalize (s * 1140671 + 27644437 * i * i + 131 * i + 19) % 2147483629 = m at hm ⊢
    walk_at "rd"
    exact q _

/-- a draw: some number below the bound; the generator goes on -/
def sp_l_random : Sp := fun vs H Q _ => ∃ (p : Addr) (a s t b : Int), vs = [.ref p, .int b] ∧ H p = some (gen a s t) ∧ 0 < b ∧ b.natAbs < 2 ^ 210 ∧ 0 ≤ t ∧ t < 2 ^ 62 ∧
  ∀ r a' t' : Int, 0 ≤ r → r < b → t ≤ t' → t' ≤ t + 8 → Q (.int r) (upd H p (gen a' s t'))
theorem c_l_random (T : TGen K mg) : Says P w K mg base 2 "_law_random" ["_law_generator_here", "_law_bound"] sp_l_random := by
  refine says T.d_l_random sc_l_random (fun vs H Q E h => ?_) (fun f cdv A outer s H vs Q E hr h => ?_)
  · obtain ⟨_, _, _, _, _, rfl, _⟩ := h; rfl
  · refine ⟨_, (pss_cons (ps_if (pt_cmpR op_gt (pe_ix ix_list (pv 0) pe_int (fun _ _ => rfl)) pe_int (nomark _))
        (pss_cons (ps_set (i := 2) sc_l_random.nd rfl (.inl rfl) (pe_op op_mod (pe_callTy call_int1 (by rfl) T.b_int (by decide +kernel) (pa_cons (pe_ix ix_list (pv 0) pe_int (fun _ _ => rfl)) pa_nil)) (pv 1)))
        (pss_cons (ps_asg (pe_op op_fdivA (pe_ix ix_list (pv 0) pe_int (fun _ _ => rfl)) (pv 1)) (pg_sub (pv 0) pe_int set_list))
        (pss_one (ps_ret (pv 2)))))
        pss_nil)
      (pss_cons (ps_set (i := 2) sc_l_random.nd rfl (.inl rfl) pe_int)
      (pss_cons (ps_for PassesOwn.never rfl (pi_range1 (by rfl) T.b_range (pa_cons (pe_op op_add pe_int (pe_op op_fdiv (pe_bits (pv 1)) pe_int)) pa_nil)) (pg_name (i := 3) sc_l_random.nd rfl (.inl rfl))
        (pss_cons (ps_asg (pe_op op_add (pe_ix ix_list (pv 0) pe_int (fun _ _ => rfl)) pe_int) (pg_sub (pv 0) pe_int set_list))
        (pss_one (ps_set (i := 2) sc_l_random.nd rfl (.inl rfl) (pe_op op_add (pe_op op_mul (pv 2) pe_int) (pe_s (c_l_hash T) hr (pa_cons (pe_ix ix_list (pv 0) pe_int (fun _ _ => rfl)) (pa_cons (pe_ix ix_list (pv 0) pe_int (fun _ _ => rfl)) pa_nil))))))))
      (pss_one (ps_ret (pe_op op_mod (pe_callTy call_int1 (by rfl) T.b_int (by decide +kernel) (pa_cons (pv 2) pa_nil)) (pv 1))))))), ?_⟩
    obtain ⟨p, a, s, t, b, rfl, hp, b0, b1, t0, t1, q⟩ := h
    have bl : Builtin.Int.intBits b ≤ 210 := PyProof.Rows.intBits_le b1
    refine ⟨_, rfl, _, _, _, _, rfl, rfl, SqL.of hp, rfl, _, _, rfl, rfl, _, rfl, ite2 (fun _ => ?_) (fun _ => ?_)⟩
    · refine ⟨_, rfl, _, _, _, _, rfl, rfl, SqL.of hp, rfl, .inl ⟨_, rfl, ?_⟩⟩
      refine ⟨_, rfl, _, _, rfl, rfl, b0, ?_⟩
      refine ⟨_, rfl, _, _, _, _, rfl, rfl, SqL.of hp, rfl, _, rfl, _, _, rfl, rfl, ⟨by omega, Nat.lt_of_lt_of_le (PySem.Flt.log2_lt_of (by decide) b1) (by decide)⟩, ?_⟩
      refine ⟨_, rfl, _, _, _, _, rfl, rfl, hp, rfl, ?_⟩
      refine ⟨_, rfl, ?_⟩
      exact q _ _ t (mod_in b0).1 (mod_in b0).2 (by omega) (by omega)
    · refine ⟨_, rfl, _, rfl, _, _, rfl, rfl, ⟨by decide, by decide⟩, _, _, rfl, rfl, _, rfl, ?_, ?_, ?_⟩
      · show -(2 ^ 62) ≤ 1 + ((Builtin.Int.intBits b : Nat) : Int) / 30
        omega
      · show 1 + ((Builtin.Int.intBits b : Nat) : Int) / 30 < 2 ^ 62
        omega
      · refine for_range (lo := 0) (fun i σ H' => ∃ (d t' : Int) (v : Option V), σ = [some (.ref p), some (.int b), some (.int d), v] ∧ t' = t + i ∧ H' = upd H p (gen a s t')) ⟨0, t, none, rfl, by omega, (upd_self hp).symm⟩ ?_ ?_
        · rintro i σ H' hi ⟨d, t', v, rfl, rfl, rfl⟩
          have hi8 : i < (1 + ((Builtin.Int.intBits b : Nat) : Int) / 30).toNat := hi
          refine ⟨_, rfl, _, _, _, _, rfl, rfl, SqL.of upd_same, rfl, _, _, rfl, rfl, ?_⟩
          refine ⟨_, rfl, _, _, _, _, rfl, rfl, upd_same, rfl, ?_⟩
          rw [upd_upd]
          refine ⟨_, rfl, _, _, rfl, rfl, .inr (by decide), ?_⟩
          refine ⟨_, rfl, _, _, _, _, rfl, rfl, SqL.of upd_same, rfl, _, rfl, _, _, _, _, rfl, rfl, SqL.of upd_same, rfl, ?_⟩
          refine ⟨_, _, rfl, by omega, by omega, fun r => ?_⟩
          refine ⟨_, _, rfl, rfl, ?_⟩
          exact ⟨_, t + i + 1, _, rfl, by omega, rfl⟩
        · rintro σ H' ⟨d, t', v, rfl, rfl, rfl⟩
          refine ⟨_, rfl, .inl ⟨_, rfl, ?_⟩⟩
          refine ⟨_, rfl, _, _, rfl, rfl, b0, ?_⟩
          have hn : ((1 + ((Builtin.Int.intBits b : Nat) : Int) / 30).toNat : Int) ≤ 8 := by omega
          exact q _ a _ (mod_in b0).1 (mod_in b0).2 (Int.le_add_of_nonneg_right (Int.natCast_nonneg _)) (Int.add_le_add_left hn t)
def sp_l_cell (K : PySem.W.Frag) : Sp := fun vs H Q _ => ∃ (p : Addr) (ns : List Int) (i : Int), vs = [.ref p, .int i] ∧ SqL K H p (ns.map V.int) ∧ 0 ≤ i ∧ ∀ (r : Int) (H' : Hp), Same H H' → Q (.int r) H'
theorem c_l_cell (T : TGen K mg) : Says P w K mg base 1 "_law_cell" ["_law_script", "_law_index"] (sp_l_cell K) := by
  refine says T.d_l_cell sc_l_cell (fun vs H Q E h => ?_) (fun f cdv A outer s H vs Q E hr h => ?_)
  · obtain ⟨_, _, _, rfl, _⟩ := h; rfl
  · refine ⟨_, (pss_cons (ps_if (pt_cmpR op_lt (pv 1) (pe_callB call_len_seq (by rfl) T.b_len (by decide +kernel) (pa_cons (pv 0) pa_nil)) (nomark _))
        (pss_one (ps_ret (pe_ix ix_list (pv 0) (pv 1) (fun _ _ => rfl))))
        pss_nil)
      (pss_one (ps_ret (pe_op op_mod (pe_callB (cr_sum rfl) (by rfl) T.b_sum (by decide +kernel) (pa_cons (pe_slice sl_list (pv 0) po_none (po_some pe_int)) pa_nil)) pe_int)))), ?_⟩
    obtain ⟨p, ns, i, rfl, hp, i0, q⟩ := h
    refine ⟨_, rfl, _, rfl, _, _, rfl, .inl hp, _, _, rfl, rfl, _, rfl, ite2 (fun lt => ?_) (fun _ => ?_)⟩
    · have lt2 : i < ((ns.map V.int).length : Int) := of_decide_eq_true lt
      rw [List.length_map] at lt2
      have e : atI (ns.map V.int) i = some (.int (ns[i.toNat]'(by omega))) := by
        have z := atI_nat (xs := ns.map V.int) (j := i.toNat) (v := .int (ns[i.toNat]'(by omega))) (by rw [List.getElem?_map, List.getElem?_eq_getElem (by omega)]; rfl)
        rwa [Int.toNat_of_nonneg i0] at z
      refine ⟨_, rfl, _, rfl, _, _, _, _, rfl, rfl, hp, e, ?_⟩
      exact q _ _ (Same.refl _)
    · refine ⟨_, rfl, 1, rfl, _, _, rfl, hp, fun l hl => ?_⟩
      refine ⟨_, (ns.take 1), rfl, ?_, ?_⟩
      · rw [← cut_first]
        exact SqL.of upd_same
      · refine ⟨_, _, rfl, rfl, (show (0 : Int) < 1000003 by decide), ?_⟩
        exact q _ _ (same_new hl)
/-- a new generator -/
def sp_l_generator (K : PySem.W.Frag) : Sp := fun vs H Q _ => ∃ (p : Addr) (ns : List Int) (i : Int), vs = [.ref p, .int i] ∧ SqL K H p (ns.map V.int) ∧ 0 ≤ i ∧ i < 1000 ∧
  ∀ (g : Addr) (a s : Int) (H' : Hp), H g = none → Same H H' → H' g = some (gen a s (1000 * i)) → Q (.ref g) H'
theorem c_l_generator (T : TGen K mg) : Says P w K mg base 2 "_law_generator" ["_law_script", "_law_index"] (sp_l_generator K) := by
  refine says T.d_l_generator sc_l_generator (fun vs H Q E h => ?_) (fun f cdv A outer s H vs Q E hr h => ?_)
  · obtain ⟨_, _, _, rfl, _⟩ := h; rfl
  · refine ⟨_, (pss_cons (ps_set (i := 2) sc_l_generator.nd rfl (.inl rfl) (pe_s (c_l_cell T) hr (pa_cons (pv 0) (pa_cons (pv 1) pa_nil))))
      (pss_one (ps_ret (pe_lst (pa_cons (pe_op op_mod (pe_callTy call_int1 (by rfl) T.b_int (by decide +kernel) (pa_cons (pe_callB (call_max2 rfl) (by rfl) T.b_max (by decide +kernel) (pa_cons (pe_op op_sub (pv 2) (pe_op op_powA pe_int pe_int)) (pa_cons pe_int pa_nil))) pa_nil)) (pe_op op_powA (pe_op op_powA pe_int pe_int) pe_int)) (pa_cons (pe_op op_mod (pe_callTy call_int1 (by rfl) T.b_int (by decide +kernel) (pa_cons (pv 2) pa_nil)) pe_int) (pa_cons (pe_op op_mul pe_int (pv 1)) pa_nil))))))), ?_⟩
    obtain ⟨p, ns, i, rfl, hp, i0, i1, q⟩ := h
    refine ⟨_, rfl, _, rfl, _, _, _, rfl, hp, i0, fun r H1 s1 => ?_⟩
    refine ⟨_, rfl, _, _, rfl, rfl, ⟨by decide, by decide +kernel⟩, _, _, rfl, rfl, ?_⟩
    refine ⟨_, _, rfl, .inl ⟨_, rfl, ?_⟩⟩
    refine ⟨_, _, rfl, rfl, ⟨by decide, by decide +kernel⟩, _, _, rfl, rfl, ⟨by decide, by decide +kernel⟩, ?_⟩
    refine ⟨_, _, rfl, rfl, (show (0 : Int) < ((10 ^ Int.toNat 60) ^ Int.toNat 10) by decide +kernel), ?_⟩
    refine ⟨_, rfl, .inl ⟨_, rfl, _, _, rfl, rfl, (show (0 : Int) < 2147483647 by decide), ?_⟩⟩
    refine ⟨_, rfl, _, _, rfl, rfl, .inl (by decide), ?_⟩
    refine ⟨(show 3 ≤ sizeLine by decide), fun g hg => ?_⟩
    exact q g _ _ _ (s1.free hg) (s1.trans (same_new hg)) upd_same
end
end Cb
set_option Elab.async false
set_option linter.all false
set_option maxRecDepth 100000
set_option maxHeartbeats 4000000
local macro_rules | `(tactic| walk_at "rd1") => `(tactic| first
  | refine ⟨_, rfl, ?_⟩
  | refine ⟨_, _, rfl, rfl, ?_⟩
  | refine .inl ⟨_, rfl, ?_⟩
  | (refine ⟨by first | decide | omega | exact .inl (by decide) | exact .inr (by decide) | exact .inl (by omega) | exact .inr (by omega) | exact ⟨by decide, by decide⟩, ?_⟩))
local macro_rules | `(tactic| walk_at "rd") => `(tactic| repeat walk_at "rd1")
namespace Cb
open PySem PySem.Spec PyProof.Rows L2
/-! ### a list of values made one by one -/
theorem lc_map {K : PySem.W.Frag} {a : Addr} {xs ys : List V} {i : Nat} {te : TE} {σ : L2.St} {H1 : Hp} {D : Addr} {Qd : Hp → Prop} (hL : SqL K H1 a xs) (hD : H1 D = none) (small : xs.length < 1000) (len : ys.length = xs.length)
    (hs : ∀ (j : Nat) (x y : V), xs[j]? = some x → ys[j]? = some y → ∀ (H' : Hp) (Q : VK), Same H1 H' → (∀ H'', Same H' H'' → Q y H'') → te ((wipe σ [i]).set i (some x)) H' Q)
    (hd : ∀ H', Same H1 H' → H' D = some (.lst ys) → Qd H') :
    ∃ W : Nat → Nat → Hp → Prop, (∃ m, W 0 m (upd H1 D (.lst []))) ∧ ∀ n m H, W n m H →
      ((Itl K a).stop n H ∧ Qd H) ∨ ((Itl K a).go n H ∧ ∃ Nx : Hp → Prop, (∀ H', Nx H' → ∃ m', m' < m ∧ W (n + 1) m' H') ∧ ∀ x H', (Itl K a).yld n H x H' → gName i x (wipe σ [i]) H' fun σ2 H2 => wipe σ2 [i] = wipe σ [i] ∧ tYes σ2 H2 fun b H3 =>
        if b = true then te σ2 H3 fun y H4 => ∃ acc, H4 D = some (.lst acc) ∧ acc.length < sizeLine ∧ Nx (upd H4 D (.lst (acc ++ [y]))) else Nx H3) := by
  refine lc_list (xs := xs) (fun j H' => Same H1 H' ∧ H' D = some (.lst (ys.take j))) ⟨same_new hD, upd_same⟩ (fun j H' _ z => z.1.seq hL) ?_ ?_
  · rintro j x H' hx ⟨s1, hd1⟩
    have lt : j < xs.length := (List.getElem?_eq_some_iff.mp hx).1
    have hy : ys[j]? = some ys[j] := List.getElem?_eq_getElem (by omega)
    refine ⟨?_, ?_⟩
    · show ((wipe σ [i]).set i (some x)).set i none = wipe σ [i]
      show ((σ.set i none).set i (some x)).set i none = σ.set i none
      rw [List.set_set, List.set_set]
    · show te ((wipe σ [i]).set i (some x)) H' _
      refine hs j x _ hx hy H' _ s1 ?_
      intro H'' s2
      have e2 := s2 _ _ hd1
      refine ⟨_, e2, ?_, ?_, ?_⟩
      · rw [List.length_take]
        exact Nat.lt_of_le_of_lt (Nat.min_le_right _ _) (by rw [len]; exact small1000 (by omega))
      · intro b o e
        rw [upd_ne (ne_of_none e hD)]
        exact s2 _ _ (s1 _ _ e)
      · rw [upd_same, List.take_add_one, hy]
        rfl
  · rintro H' ⟨s1, hd1⟩
    rw [List.take_of_length_le (by omega)] at hd1
    exact hd H' s1 hd1
/-! ### the numbers of the language -/
abbrev lo : Int := -9223372036854775808
abbrev hi : Int := 9223372036854775807
def InR (i : Int) : Prop := -9223372036854775808 ≤ i ∧ i ≤ 9223372036854775807
def inR (i : Int) : Bool := decide (lo ≤ i) && decide (i ≤ hi)
theorem inR_of {i : Int} (h : InR i) : inR i = true := by
  unfold inR
  rw [decide_eq_true h.1, decide_eq_true h.2]
  rfl
def led (i : Int) : Int := (i - lo) % 18446744073709551616 + lo
theorem pow64 : (2 : Int) ^ Int.toNat 64 = 18446744073709551616 := by decide +kernel
/-! ### the text -/
abbrev s_is_whole : Stmt := topS 9
theorem sc_is_whole : FnScope ["value"] ["value"] (defScope s_is_whole) := ⟨rfl, rfl, rfl, by decide +kernel, rfl, by decide +kernel, by decide +kernel⟩
abbrev s_is_number : Stmt := topS 10
theorem sc_is_number : FnScope ["value"] ["value"] (defScope s_is_number) := ⟨rfl, rfl, rfl, by decide +kernel, rfl, by decide +kernel, by decide +kernel⟩
abbrev s_led_in : Stmt := topS 11
theorem sc_led_in : FnScope ["number"] ["number"] (defScope s_led_in) := ⟨rfl, rfl, rfl, by decide +kernel, rfl, by decide +kernel, by decide +kernel⟩
abbrev s_is_sign : Stmt := topS 12
theorem sc_is_sign : FnScope ["value"] ["value"] (defScope s_is_sign) := ⟨rfl, rfl, rfl, by decide +kernel, rfl, by decide +kernel, by decide +kernel⟩
abbrev s_sign_shape : Stmt := topS 13
theorem sc_sign_shape : FnScope ["sign"] ["sign"] (defScope s_sign_shape) := ⟨rfl, rfl, rfl, by decide +kernel, rfl, by decide +kernel, by decide +kernel⟩
abbrev s_plus : Stmt := topS 14
theorem sc_plus : FnScope ["one", "other"] ["one", "other"] (defScope s_plus) := ⟨rfl, rfl, rfl, by decide +kernel, rfl, by decide +kernel, by decide +kernel⟩
abbrev s_minus : Stmt := topS 15
theorem sc_minus : FnScope ["one", "other"] ["one", "other"] (defScope s_minus) := ⟨rfl, rfl, rfl, by decide +kernel, rfl, by decide +kernel, by decide +kernel⟩
abbrev s_times : Stmt := topS 16
theorem sc_times : FnScope ["one", "other"] ["one", "other"] (defScope s_times) := ⟨rfl, rfl, rfl, by decide +kernel, rfl, by decide +kernel, by decide +kernel⟩
abbrev s_over : Stmt := topS 17
theorem sc_over : FnScope ["one", "other"] ["one", "other"] (defScope s_over) := ⟨rfl, rfl, rfl, by decide +kernel, rfl, by decide +kernel, by decide +kernel⟩
abbrev s_rest : Stmt := topS 18
theorem sc_rest : FnScope ["one", "other"] ["one", "other"] (defScope s_rest) := ⟨rfl, rfl, rfl, by decide +kernel, rfl, by decide +kernel, by decide +kernel⟩
abbrev s_less : Stmt := topS 19
theorem sc_less : FnScope ["one", "other"] ["one", "other"] (defScope s_less) := ⟨rfl, rfl, rfl, by decide +kernel, rfl, by decide +kernel, by decide +kernel⟩
abbrev s_same : Stmt := topS 20
theorem sc_same : FnScope ["one", "other"] ["one", "other"] (defScope s_same) := ⟨rfl, rfl, rfl, by decide +kernel, rfl, by decide +kernel, by decide +kernel⟩
abbrev s_both : Stmt := topS 21
theorem sc_both : FnScope ["one", "other"] ["one", "other"] (defScope s_both) := ⟨rfl, rfl, rfl, by decide +kernel, rfl, by decide +kernel, by decide +kernel⟩
abbrev s_either : Stmt := topS 22
theorem sc_either : FnScope ["one", "other"] ["one", "other"] (defScope s_either) := ⟨rfl, rfl, rfl, by decide +kernel, rfl, by decide +kernel, by decide +kernel⟩
abbrev s_reckoned : Stmt := topS 24
theorem sc_reckoned : FnScope ["sign", "arguments", "work"] ["sign", "arguments"] (defScope s_reckoned) := ⟨rfl, rfl, rfl, by decide +kernel, rfl, by decide +kernel, by decide +kernel⟩
abbrev s_is_wanted_by : Stmt := topS 25
theorem sc_is_wanted_by : FnScope ["sign", "arguments", "kind", "many", "_", "argument"] ["sign", "arguments"] (defScope s_is_wanted_by) := ⟨rfl, rfl, rfl, by decide +kernel, rfl, by decide +kernel, by decide +kernel⟩
abbrev s_done : Stmt := topS 26
theorem sc_done : FnScope ["sign", "arguments"] ["sign", "arguments"] (defScope s_done) := ⟨rfl, rfl, rfl, by decide +kernel, rfl, by decide +kernel, by decide +kernel⟩
/-- a tuple of the written part -/
def KTup (K : PySem.W.Frag) (a : Addr) (xs : List V) : Prop := ∃ (o : Obj) (its : Array Value) (n : Nat), K.lookup a = some o ∧ o.cls = .type "tuple" ∧ o.data = .seq its n ∧ its.size ≤ sizeLine ∧ Vals xs its.toList
theorem KTup.sq {K : PySem.W.Frag} {a : Addr} {xs : List V} (h : KTup K a xs) (H : Hp) : SqT K H a xs := .inr h
/-- the table of the signs: at z its shape -/
def Shape (K : PySem.W.Frag) (d : Addr) (z : Str) (kind : Str) (many : Int) (gives : Str) : Prop := ∃ a : Addr, PySem.W.nsIn K d z = some (some (.ref a)) ∧ KTup K a [.str kind, .int many, .str gives]
structure TNum (K : PySem.W.Frag) (w : World) (mg : Str → Option Value) : Prop where
  d_is_whole : Has K mg "is_whole" s_is_whole ["value"]
  d_is_number : Has K mg "is_number" s_is_number ["value"]
  d_led_in : Has K mg "led_in" s_led_in ["number"]
  d_is_sign : Has K mg "is_sign" s_is_sign ["value"]
  d_sign_shape : Has K mg "sign_shape" s_sign_shape ["sign"]
  d_plus : Has K mg "plus" s_plus ["one", "other"]
  d_minus : Has K mg "minus" s_minus ["one", "other"]
  d_times : Has K mg "times" s_times ["one", "other"]
  d_over : Has K mg "over" s_over ["one", "other"]
  d_rest : Has K mg "rest" s_rest ["one", "other"]
  d_less : Has K mg "less" s_less ["one", "other"]
  d_same : Has K mg "same" s_same ["one", "other"]
  d_both : Has K mg "both" s_both ["one", "other"]
  d_either : Has K mg "either" s_either ["one", "other"]
  d_reckoned : Has K mg "reckoned" s_reckoned ["sign", "arguments"]
  d_is_wanted_by : Has K mg "is_wanted_by" s_is_wanted_by ["sign", "arguments"]
  d_done : Has K mg "done" s_done ["sign", "arguments"]
  k_led_in : HasK K mg "led_in" s_led_in ["number"] ["number"] (fun l => l)
  k_done : HasK K mg "done" s_done ["sign", "arguments"] ["arguments", "sign"] List.reverse
  b_isinstance : mg "isinstance" = none
  b_int : mg "int" = none
  b_bool : mg "bool" = none
  b_str : mg "str" = none
  b_list : mg "list" = none
  b_len : mg "len" = none
  b_all : mg "all" = none
  g_LEAST : ∃ t, mg "LEAST" = some (.int lo t)
  g_GREATEST : ∃ t, mg "GREATEST" = some (.int hi t)
  g_SHAPES : ∃ (d : Addr) (es : Array DictEntry) (n : Nat), mg "SHAPES" = some (.ref d) ∧ KDict K w d es n ∧ (∀ z ∈ (["plus", "minus", "times", "over", "rest"] : List Str), Shape K d z "num" 2 "num") ∧
    (∀ z ∈ (["less", "same"] : List Str), Shape K d z "num" 2 "flag") ∧ (∀ z ∈ (["both", "any"] : List Str), Shape K d z "flag" 2 "flag") ∧ Shape K d "not" "flag" 1 "flag" ∧
    ∀ z ∈ (["", "PLUS", "plus ", "and", "divide"] : List Str), PySem.W.nsIn K d z = some none
  g_WORKS : ∃ (d : Addr) (es : Array DictEntry) (n : Nat), mg "WORKS" = some (.ref d) ∧ KDict K w d es n ∧ ∀ p ∈ ([("plus", "plus"), ("minus", "minus"), ("times", "times"), ("over", "over"), ("rest", "rest"), ("less", "less"), ("same", "same"), ("both", "both"), ("any", "either")] : List (Str × Str)),
    ∃ f : Addr, mg p.2 = some (.ref f) ∧ PySem.W.nsIn K d p.1 = some (some (.ref f))
section
variable {P : Program} {w : World} {K : PySem.W.Frag} {mg : Str → Option Value} {base : Heap}
/-- what is a whole number: told by its type -/
def sp_is_whole (K : PySem.W.Frag) : Sp := fun vs H Q _ => ∃ (v : V) (T : String) (b1 b2 : Bool), vs = [v] ∧ TyX K H v (.type T) ∧ kitB T "int" = some b1 ∧ kitB T "bool" = some b2 ∧ Q (.bl (b1 && !b2)) H
theorem c_is_whole (T : TNum K w mg) : Says P w K mg base 1 "is_whole" ["value"] (sp_is_whole K) := by
  refine says T.d_is_whole sc_is_whole (fun vs H Q E h => ?_) (fun f cdv A outer s H vs Q E hr h => ?_)
  · obtain ⟨_, _, _, _, rfl, _⟩ := h; rfl
  · refine ⟨_, (pss_one (ps_ret (pe_and (pe_callB call_isi (by rfl) T.b_isinstance (by decide +kernel) (pa_cons (pv 0) (pa_cons (pe_bltn (v := .ty "int") (by rfl) T.b_int (by decide +kernel) rfl) pa_nil))) (pe_one (pe_not (pe_callB call_isi (by rfl) T.b_isinstance (by decide +kernel) (pa_cons (pv 0) (pa_cons (pe_bltn (v := .ty "bool") (by rfl) T.b_bool (by decide +kernel) rfl) pa_nil)))))))), ?_⟩
    obtain ⟨v, t, b1, b2, rfl, ty, k1, k2, q⟩ := h
    refine ⟨_, rfl, _, _, _, _, _, rfl, .ty _, ty, kit_ty k1, _, rfl, ?_⟩
    cases b1 with
    | false => exact iteF q
    | true => exact iteT ⟨_, rfl, _, _, _, _, _, rfl, .ty _, ty, kit_ty k2, _, rfl, q⟩
def sp_is_number (K : PySem.W.Frag) : Sp := fun vs H Q _ => (∃ i : Int, vs = [.int i] ∧ Q (.bl (inR i)) H) ∨
  ∃ (v : V) (T : String) (b1 b2 : Bool), vs = [v] ∧ TyX K H v (.type T) ∧ kitB T "int" = some b1 ∧ kitB T "bool" = some b2 ∧ (b1 && !b2) = false ∧ Q (.bl false) H
theorem c_is_number (T : TNum K w mg) : Says P w K mg base 2 "is_number" ["value"] (sp_is_number K) := by
  obtain ⟨tl, gl⟩ := T.g_LEAST
  obtain ⟨tg, gg⟩ := T.g_GREATEST
  refine says T.d_is_number sc_is_number (fun vs H Q E h => ?_) (fun f cdv A outer s H vs Q E hr h => ?_)
  · rcases h with ⟨_, rfl, _⟩ | ⟨_, _, _, _, rfl, _⟩ <;> rfl
  · refine ⟨_, (pss_one (ps_ret (pe_and (pe_s (c_is_whole T) hr (pa_cons (pv 0) pa_nil)) (pe_one (pe_chain op_le op_le (pe_glob (v := .int lo) rfl gl ⟨_, rfl⟩) (pv 0) (pe_glob (v := .int hi) rfl gg ⟨_, rfl⟩)))))), ?_⟩
    rcases h with ⟨i, rfl, q⟩ | ⟨v, t, b1, b2, rfl, ty, k1, k2, e, q⟩
    · refine ⟨_, rfl, _, _, true, false, rfl, .base (.int i), by decide +kernel, by decide +kernel, _, rfl, iteT ?_⟩
      refine ⟨_, rfl, _, _, rfl, rfl, _, rfl, ?_⟩
      unfold inR at q
      by_cases h1 : lo ≤ i
      · rw [decide_eq_true h1] at q ⊢
        exact iteT ⟨_, _, rfl, rfl, q⟩
      · rw [decide_eq_false h1] at q ⊢
        exact iteF q
    · refine ⟨_, rfl, _, _, _, _, rfl, ty, k1, k2, _, rfl, ?_⟩
      rw [e]
      exact iteF q
def sp_led_in : Sp := fun vs H Q _ => ∃ i : Int, vs = [.int i] ∧ Q (.int (led i)) H
theorem len_led_in : ∀ vs H Q E, sp_led_in vs H Q E → vs.length = (["number"] : List Str).length := fun vs H Q E h => by
  obtain ⟨_, rfl, _⟩ := h; rfl
theorem b_led_in (T : TNum K w mg) : Body P w K mg base 1 "led_in" s_led_in ["number"] sp_led_in := by
  obtain ⟨tl, gl⟩ := T.g_LEAST
  intro f cdv A outer s H vs Q E hr h
  refine ⟨_, (pss_cons (ps_if (pt_not (pt_val (pe_s (c_is_whole T) hr (pa_cons (pv 0) pa_nil))))
        (pss_one ps_never)
        pss_nil)
      (pss_one (ps_ret (pe_op op_add (pe_op op_mod (pe_op op_sub (pv 0) (pe_glob (v := .int lo) rfl gl ⟨_, rfl⟩)) (pe_op op_powA pe_int pe_int)) (pe_glob (v := .int lo) rfl gl ⟨_, rfl⟩))))), ?_⟩
  obtain ⟨i, rfl, q⟩ := h
  refine ⟨_, rfl, _, _, true, false, rfl, .base (.int i), by decide +kernel, by decide +kernel, _, rfl, iteF ?_⟩
  refine ⟨_, rfl, _, _, rfl, rfl, _, _, rfl, rfl, ⟨by decide, by decide +kernel⟩, _, _, rfl, rfl, (show (0 : Int) < 2 ^ Int.toNat 64 by decide +kernel), _, _, rfl, rfl, ?_⟩
  show Q (.int ((i - lo) % 2 ^ Int.toNat 64 + lo)) H
  rw [pow64]
  exact q
theorem c_led_in (T : TNum K w mg) : Says P w K mg base 2 "led_in" ["number"] sp_led_in := says T.d_led_in sc_led_in len_led_in (b_led_in T)
theorem k_led_in (T : TNum K w mg) : SaysK P w K mg base 2 "led_in" ["number"] ["number"] (fun l => l) sp_led_in := saysK T.k_led_in sc_led_in len_led_in (b_led_in T)

/-! ### what two numbers, or two flags, give -/
def sp_two (g : Int → Int → V) : Sp := fun vs H Q _ => ∃ a b : Int, vs = [.int a, .int b] ∧ InR a ∧ InR b ∧ Q (g a b) H
def sp_flags (g : Bool → Bool → Bool) : Sp := fun vs H Q _ => ∃ a b : Bool, vs = [.bl a, .bl b] ∧ Q (.bl (g a b)) H
def v_over (a b : Int) : V := .int (if b = 0 then 0 else led (a.fdiv b))
def v_rest (a b : Int) : V := .int (if b = 0 then a else a.fmod b)
theorem c_plus (T : TNum K w mg) : Says P w K mg base 3 "plus" ["one", "other"] (sp_two fun a b => .int (led (a + b))) := by
  refine says T.d_plus sc_plus (fun vs H Q E h => ?_) (fun f cdv A outer s H vs Q E hr h => ?_)
  · obtain ⟨_, _, rfl, _⟩ := h; rfl
  · refine ⟨_, (pss_one (ps_ret (pe_s (c_led_in T) hr (pa_cons (pe_op op_add (pv 0) (pv 1)) pa_nil)))), ?_⟩
    obtain ⟨a, b, rfl, _, _, q⟩ := h
    exact ⟨_, rfl, _, rfl, _, _, rfl, rfl, _, rfl, q⟩
theorem c_minus (T : TNum K w mg) : Says P w K mg base 3 "minus" ["one", "other"] (sp_two fun a b => .int (led (a - b))) := by
  refine says T.d_minus sc_minus (fun vs H Q E h => ?_) (fun f cdv A outer s H vs Q E hr h => ?_)
  · obtain ⟨_, _, rfl, _⟩ := h; rfl
  · refine ⟨_, (pss_one (ps_ret (pe_s (c_led_in T) hr (pa_cons (pe_op op_sub (pv 0) (pv 1)) pa_nil)))), ?_⟩
    obtain ⟨a, b, rfl, _, _, q⟩ := h
    exact ⟨_, rfl, _, rfl, _, _, rfl, rfl, _, rfl, q⟩
theorem c_times (T : TNum K w mg) : Says P w K mg base 3 "times" ["one", "other"] (sp_two fun a b => .int (led (a * b))) := by
  refine says T.d_times sc_times (fun vs H Q E h => ?_) (fun f cdv A outer s H vs Q E hr h => ?_)
  · obtain ⟨_, _, rfl, _⟩ := h; rfl
  · refine ⟨_, (pss_one (ps_ret (pe_s (c_led_in T) hr (pa_cons (pe_op op_mul (pv 0) (pv 1)) pa_nil)))), ?_⟩
    obtain ⟨a, b, rfl, ha, _, q⟩ := h
    have h1 := ha.1
    have h2 := ha.2
    exact ⟨_, rfl, _, rfl, _, _, rfl, rfl, .inl ⟨by omega, by omega⟩, _, rfl, q⟩
theorem log_in {b : Int} (h : InR b) : b.natAbs.log2 < 9000 := by
  have h1 := h.1
  have h2 := h.2
  exact Nat.lt_of_lt_of_le (PySem.Flt.log2_lt_of (by decide) (show b.natAbs < 2 ^ 65 by omega)) (by decide)
theorem c_over (T : TNum K w mg) : Says P w K mg base 3 "over" ["one", "other"] (sp_two v_over) := by
  refine says T.d_over sc_over (fun vs H Q E h => ?_) (fun f cdv A outer s H vs Q E hr h => ?_)
  · obtain ⟨_, _, rfl, _⟩ := h; rfl
  · refine ⟨_, (pss_one (ps_ret (pe_ifExp (pt_cmpR op_eq (pv 1) pe_int (nomark _)) pe_int (pe_s (c_led_in T) hr (pa_cons (pe_op op_fdivA (pv 0) (pv 1)) pa_nil))))), ?_⟩
    obtain ⟨a, b, rfl, ha, hb, q⟩ := h
    unfold v_over at q
    refine ⟨_, rfl, rfl, _, rfl, ite2 (fun z => ?_) (fun z => ?_)⟩
    · have e : b = 0 := V.int.inj (of_decide_eq_true z)
      rw [if_pos e] at q
      exact q
    · have e : ¬ b = 0 := fun y => z (decide_eq_true (congrArg V.int y))
      rw [if_neg e] at q
      exact ⟨_, rfl, _, rfl, _, _, rfl, rfl, ⟨e, log_in hb⟩, _, rfl, q⟩
theorem c_rest (T : TNum K w mg) : Says P w K mg base 3 "rest" ["one", "other"] (sp_two v_rest) := by
  refine says T.d_rest sc_rest (fun vs H Q E h => ?_) (fun f cdv A outer s H vs Q E hr h => ?_)
  · obtain ⟨_, _, rfl, _⟩ := h; rfl
  · refine ⟨_, (pss_one (ps_ret (pe_ifExp (pt_cmpR op_eq (pv 1) pe_int (nomark _)) (pv 0) (pe_op op_modN (pv 0) (pv 1))))), ?_⟩
    obtain ⟨a, b, rfl, ha, hb, q⟩ := h
    unfold v_rest at q
    refine ⟨_, rfl, rfl, _, rfl, ite2 (fun z => ?_) (fun z => ?_)⟩
    · have e : b = 0 := V.int.inj (of_decide_eq_true z)
      rw [if_pos e] at q
      exact ⟨_, rfl, q⟩
    · have e : ¬ b = 0 := fun y => z (decide_eq_true (congrArg V.int y))
      rw [if_neg e] at q
      exact ⟨_, rfl, _, rfl, _, _, rfl, rfl, e, q⟩
theorem c_less (T : TNum K w mg) : Says P w K mg base 3 "less" ["one", "other"] (sp_two fun a b => .bl (decide (a < b))) := by
  refine says T.d_less sc_less (fun vs H Q E h => ?_) (fun f cdv A outer s H vs Q E hr h => ?_)
  · obtain ⟨_, _, rfl, _⟩ := h; rfl
  · refine ⟨_, (pss_one (ps_ret (pe_cmpR op_lt (pv 0) (pv 1) (nomark _)))), ?_⟩
    obtain ⟨a, b, rfl, _, _, q⟩ := h
    exact ⟨_, rfl, _, rfl, _, _, rfl, rfl, q⟩
theorem c_same (T : TNum K w mg) : Says P w K mg base 3 "same" ["one", "other"] (sp_two fun a b => .bl (decide (V.int a = V.int b))) := by
  refine says T.d_same sc_same (fun vs H Q E h => ?_) (fun f cdv A outer s H vs Q E hr h => ?_)
  · obtain ⟨_, _, rfl, _⟩ := h; rfl
  · refine ⟨_, (pss_one (ps_ret (pe_cmpR op_eq (pv 0) (pv 1) (nomark _)))), ?_⟩
    obtain ⟨a, b, rfl, _, _, q⟩ := h
    exact ⟨_, rfl, _, rfl, rfl, q⟩
theorem c_both (T : TNum K w mg) : Says P w K mg base 3 "both" ["one", "other"] (sp_flags fun a b => a && b) := by
  refine says T.d_both sc_both (fun vs H Q E h => ?_) (fun f cdv A outer s H vs Q E hr h => ?_)
  · obtain ⟨_, _, rfl, _⟩ := h; rfl
  · refine ⟨_, (pss_one (ps_ret (pe_and (pv 0) (pe_one (pv 1))))), ?_⟩
    obtain ⟨a, b, rfl, q⟩ := h
    refine ⟨_, rfl, _, rfl, ?_⟩
    cases a with
    | true => exact iteT ⟨_, rfl, q⟩
    | false => exact iteF q
theorem c_either (T : TNum K w mg) : Says P w K mg base 3 "either" ["one", "other"] (sp_flags fun a b => a || b) := by
  refine says T.d_either sc_either (fun vs H Q E h => ?_) (fun f cdv A outer s H vs Q E hr h => ?_)
  · obtain ⟨_, _, rfl, _⟩ := h; rfl
  · refine ⟨_, (pss_one (ps_ret (pe_or (pv 0) (pe_one (pv 1))))), ?_⟩
    obtain ⟨a, b, rfl, q⟩ := h
    refine ⟨_, rfl, _, rfl, ?_⟩
    cases a with
    | true => exact iteT q
    | false => exact iteF ⟨_, rfl, q⟩
/-! ### signs -/
def sp_is_sign (K : PySem.W.Frag) (d : Addr) : Sp := fun vs H Q _ => (∃ (z : Str) (r : Option Value), vs = [.str z] ∧ PySem.W.nsIn K d z = some r ∧ Q (.bl r.isSome) H) ∨
  ∃ (v : V) (T : String), vs = [v] ∧ TyX K H v (.type T) ∧ kitB T "str" = some false ∧ Q (.bl false) H
theorem c_is_sign (T : TNum K w mg) {d : Addr} {es : Array DictEntry} {n : Nat} (g : mg "SHAPES" = some (.ref d)) (D : KDict K w d es n) : Says P w K mg base 1 "is_sign" ["value"] (sp_is_sign K d) := by
  refine says T.d_is_sign sc_is_sign (fun vs H Q E h => ?_) (fun f cdv A outer s H vs Q E hr h => ?_)
  · rcases h with ⟨_, _, rfl, _⟩ | ⟨_, _, rfl, _⟩ <;> rfl
  · refine ⟨_, (pss_one (ps_ret (pe_and (pe_callB call_isi (by rfl) T.b_isinstance (by decide +kernel) (pa_cons (pv 0) (pa_cons (pe_bltn (v := .ty "str") (by rfl) T.b_str (by decide +kernel) rfl) pa_nil))) (pe_one (pe_cmpR (op_in_kd D) (pv 0) (pe_glob (v := .ref d) rfl g rfl) (by rfl)))))), ?_⟩
    rcases h with ⟨z, r, rfl, e, q⟩ | ⟨v, t, rfl, ty, k, q⟩
    · exact ⟨_, rfl, _, _, _, _, true, rfl, .ty _, .base (.str z), kit_ty (by decide +kernel), _, rfl, iteT ⟨_, rfl, _, _, rfl, rfl, e, q⟩⟩
    · exact ⟨_, rfl, _, _, _, _, _, rfl, .ty _, ty, kit_ty k, _, rfl, iteF q⟩
def sp_sign_shape (K : PySem.W.Frag) (d : Addr) : Sp := fun vs H Q _ => ∃ (z kind gives : Str) (many : Int), vs = [.str z] ∧ Shape K d z kind many gives ∧ ∀ a, KTup K a [.str kind, .int many, .str gives] → Q (.ref a) H
theorem c_sign_shape (T : TNum K w mg) {d : Addr} {es : Array DictEntry} {n : Nat} (g : mg "SHAPES" = some (.ref d)) (D : KDict K w d es n) : Says P w K mg base 1 "sign_shape" ["sign"] (sp_sign_shape K d) := by
  refine says T.d_sign_shape sc_sign_shape (fun vs H Q E h => ?_) (fun f cdv A outer s H vs Q E hr h => ?_)
  · obtain ⟨_, _, _, _, rfl, _⟩ := h; rfl
  · refine ⟨_, (pss_one (ps_ret (pe_ix ix_kdict (pe_glob (v := .ref d) rfl g rfl) (pv 0) (fun _ _ => rfl)))), ?_⟩
    obtain ⟨z, kind, gives, many, rfl, ⟨a, e, t⟩, q⟩ := h
    exact ⟨_, rfl, _, _, .ref a, rfl, rfl, ⟨es, n, _, D.at_, D.lit, e, rfl⟩, q a t⟩
end
end Cb
set_option Elab.async false
set_option linter.all false
set_option maxRecDepth 100000
set_option maxHeartbeats 4000000
namespace Cb
open PySem PySem.Spec PyProof.Rows L2
/-! ### a name of one's own that holds a def -/
section
variable {X : Cx} {i k j : Nat} {f : Addr} {x y : Str} {ps : List Str} {sp : Sp} {p pos : Pos} {e : Expr} {es : List Expr} {t : TA}
theorem pe_l (c : Says X.prog X.w X.K X.mg X.base k x ps sp) (hm : X.mg x = some (.ref f)) (hr : Room j X.A) (hN : X.N[i]? = some y) (hv : Vis X.env.scope y) (ha : PA X (e :: es) t) (le : k ≤ j := by decide)
    (n1 : (y == ("__debug__" : Str)) = false := by decide) (n2 : (y == ("__classdict__" : Str)) = false := by decide)
    (se : starEach (e :: es) X.env = (false, eval e X.env) :: starEach es X.env := by rfl) (pl : (backTo pos (starEach es X.env)).any (·.1) = false := by rfl) : PE X (.Call (.Name y p) (e :: es) [] pos) (tCallL i f sp [] E0 t) := by
  obtain ⟨f', fd, F, hm', kp, b⟩ := c
  obtain rfl : f' = f := Value.ref.inj (Option.some.inj (hm'.symm.trans hm))
  exact pe_callL F (hr.mono le) hN hv kp b .nil pass0 ha n1 n2 se pl
end
/-! ### types stay -/
theorem ty_same {K : PySem.W.Frag} {H H' : Hp} {x : V} {t : Value} (s : Same H H') (h : TyX K H x t) : TyX K H' x t := by
  cases h with
  | base b =>
    refine .base ?_
    cases b with
    | non => exact .non
    | bl y => exact .bl y
    | int i => exact .int i
    | str y => exact .str y
    | flt y => exact .flt y
    | lst e => exact .lst (s _ _ e)
    | frz e => exact .frz (s _ _ e)
    | tup e => exact .tup (s _ _ e)
    | dK e => exact .dK (s _ _ e)
    | dT e => exact .dT (s _ _ e)
    | ins e cl ha hn htk hm => exact .ins (s _ _ e) cl ha hn htk hm
  | byt b => exact .byt b
  | set e => exact .set (s _ _ e)
  | kList e c => exact .kList e c
  | kTuple e c => exact .kTuple e c
  | kDict e c => exact .kDict e c
  | fTuple e => exact .fTuple (s _ _ e)
  | fDict e => exact .fDict (s _ _ e)
/-- what is_number says of a value; what isinstance(x, bool) says -/
def NumJ (K : PySem.W.Frag) (H : Hp) (x : V) (b : Bool) : Prop := (∃ i : Int, x = .int i ∧ b = inR i) ∨
  ∃ (T : String) (b1 b2 : Bool), TyX K H x (.type T) ∧ kitB T "int" = some b1 ∧ kitB T "bool" = some b2 ∧ (b1 && !b2) = false ∧ b = false
def FlagJ (K : PySem.W.Frag) (H : Hp) (x : V) (b : Bool) : Prop := ∃ T : String, TyX K H x (.type T) ∧ kitB T "bool" = some b
section
variable {P : Program} {w : World} {K : PySem.W.Frag} {mg : Str → Option Value} {base : Heap}
def sp_is_wanted_by (K : PySem.W.Frag) (d : Addr) : Sp := fun vs H Q _ => ∃ (z kind gives : Str) (many : Int) (v : V), vs = [.str z, v] ∧ Shape K d z kind many gives ∧
  ((∃ T : String, TyX K H v (.type T) ∧ kitB T "list" = some false ∧ Q (.bl false) H) ∨
   (∃ (p : Addr) (xs : List V), v = .ref p ∧ H p = some (.lst xs) ∧ (xs.length : Int) ≠ many ∧ Q (.bl false) H) ∨
   ∃ (p : Addr) (xs : List V) (bs : List Bool), v = .ref p ∧ H p = some (.lst xs) ∧ (xs.length : Int) = many ∧ xs.length < 1000 ∧ bs.length = xs.length ∧
     ((kind = "num" ∧ ∀ (j : Nat) (x : V) (b : Bool), xs[j]? = some x → bs[j]? = some b → NumJ K H x b) ∨ (kind = "flag" ∧ ∀ (j : Nat) (x : V) (b : Bool), xs[j]? = some x → bs[j]? = some b → FlagJ K H x b)) ∧
     ∀ H', Same H H' → Q (.bl (bs.all id)) H')
theorem c_is_wanted_by (T : TNum K w mg) {d : Addr} {es : Array DictEntry} {n : Nat} (g : mg "SHAPES" = some (.ref d)) (D : KDict K w d es n) : Says P w K mg base 3 "is_wanted_by" ["sign", "arguments"] (sp_is_wanted_by K d) := by
  refine says T.d_is_wanted_by sc_is_wanted_by (fun vs H Q E h => ?_) (fun f cdv A outer s H vs Q E hr h => ?_)
  · obtain ⟨_, _, _, _, _, rfl, _⟩ := h; rfl
  · refine ⟨_, (pss_cons (ps_asg (pe_s (c_sign_shape T g D) hr (pa_cons (pv 0) pa_nil)) (pg_tup rfl (pgs_cons (pg_name (i := 2) sc_is_wanted_by.nd rfl (.inl rfl)) (pgs_cons (pg_name (i := 3) sc_is_wanted_by.nd rfl (.inl rfl)) (pgs_cons (pg_name (i := 4) sc_is_wanted_by.nd rfl (.inl rfl)) pgs_nil)))))
      (pss_cons (ps_if (PW.pt (pw_or (pt_not (pt_val (pe_callB call_isi (by rfl) T.b_isinstance (by decide +kernel) (pa_cons (pv 1) (pa_cons (pe_bltn (v := .ty "list") (by rfl) T.b_list (by decide +kernel) rfl) pa_nil))))) (pw_or1 (pt_cmpR op_ne (pe_callB call_len_seq (by rfl) T.b_len (by decide +kernel) (pa_cons (pv 1) pa_nil)) (pv 3) (nomark _)))))
        (pss_one (ps_ret pe_bl))
        pss_nil)
      (pss_cons (ps_if (pt_cmpR op_eq (pv 2) pe_str (nomark _))
        (pss_one (ps_ret (pe_callB (cr_all rfl) (by rfl) T.b_all (by decide +kernel) (pa_cons (pe_lc (own := [("argument", 5)]) (g := gName 5) (tt := tYes) rfl sc_is_wanted_by.nd (pi_list (pv 1)) (blkOk_by (N := ["sign", "arguments", "kind", "many", "_", "argument"]) (sc := defScope s_is_wanted_by) (own := [("argument", 5)]) (by decide +kernel)) (fun _ _ _ _ _ => pg_name (i := 5) sc_is_wanted_by.nd rfl (Or.inl rfl)) (fun _ _ _ _ _ => pts_nil) (fun _ _ _ _ _ => pe_s (c_is_number T) hr (pa_cons (pv 5) pa_nil))) pa_nil))))
        pss_nil)
      (pss_one (ps_ret (pe_callB (cr_all rfl) (by rfl) T.b_all (by decide +kernel) (pa_cons (pe_lc (own := [("argument", 5)]) (g := gName 5) (tt := tYes) rfl sc_is_wanted_by.nd (pi_list (pv 1)) (blkOk_by (N := ["sign", "arguments", "kind", "many", "_", "argument"]) (sc := defScope s_is_wanted_by) (own := [("argument", 5)]) (by decide +kernel)) (fun _ _ _ _ _ => pg_name (i := 5) sc_is_wanted_by.nd rfl (Or.inl rfl)) (fun _ _ _ _ _ => pts_nil) (fun _ _ _ _ _ => pe_callB (id := "isinstance") (r := rIsi K) call_isi (by rfl) T.b_isinstance (by decide +kernel) (pa_cons (pv 5) (pa_cons (pe_bltn (v := .ty "bool") (by rfl) T.b_bool (by decide +kernel) rfl) pa_nil)))) pa_nil))))))), ?_⟩
    obtain ⟨z, kind, gives, many, v, rfl, sh, h⟩ := h
    refine ⟨_, rfl, _, _, _, _, rfl, sh, fun a t => ?_⟩
    refine ⟨_, _, rfl, t.sq H, rfl, .str kind, _, rfl, .int many, _, rfl, .str gives, [], rfl, rfl, ?_⟩
    rcases h with ⟨ty, h1, h2, q⟩ | ⟨p, xs, rfl, hp, ne, q⟩ | ⟨p, xs, bs, rfl, hp, en, small, lb, h, q⟩
    · exact ⟨_, rfl, _, _, _, _, false, rfl, .ty _, h1, kit_ty h2, _, rfl, q⟩
    · refine ⟨_, rfl, _, _, _, _, true, rfl, .ty _, .base (.lst hp), kit_ty (by decide +kernel), _, rfl, iteF ?_⟩
      refine ⟨_, rfl, _, _, rfl, .inl (SqL.of hp), _, rfl, rfl, _, rfl, ?_⟩
      have e : decide (V.int (xs.length : Int) = V.int many) = false := decide_eq_false (fun z => ne (V.int.inj z))
      rw [e]
      exact q
    · refine ⟨_, rfl, _, _, _, _, true, rfl, .ty _, .base (.lst hp), kit_ty (by decide +kernel), _, rfl, iteF ?_⟩
      refine ⟨_, rfl, _, _, rfl, .inl (SqL.of hp), _, rfl, rfl, _, rfl, ?_⟩
      have e : decide (V.int (xs.length : Int) = V.int many) = true := decide_eq_true (congrArg V.int en)
      rw [e]
      refine iteF ?_
      have len : (bs.map V.bl).length = xs.length := by rw [List.length_map, lb]
      rcases h with ⟨rfl, h⟩ | ⟨rfl, h⟩
      · refine ⟨_, rfl, rfl, _, rfl, ?_⟩
        rw [decide_eq_true rfl]
        refine iteT ?_
        refine ⟨_, rfl, _, rfl, ⟨_, SqL.of hp⟩, fun D hD => lc_map (xs := xs) (ys := bs.map V.bl) (SqL.of hp) hD small len ?_ ?_⟩
        · intro j x y hx hy H' Q' s1 q'
          rw [List.getElem?_map] at hy
          cases hb : bs[j]? with
          | none =>
            rw [hb] at hy
            cases hy
          | some b =>
            rw [hb] at hy
            obtain rfl : V.bl b = y := Option.some.inj hy
            refine ⟨x, rfl, ?_⟩
            rcases h j x b hx hb with ⟨i, rfl, rfl⟩ | ⟨ty, b1, b2, t1, k1, k2, e0, rfl⟩
            · exact .inl ⟨i, rfl, q' _ (Same.refl _)⟩
            · exact .inr ⟨x, ty, b1, b2, rfl, ty_same s1 t1, k1, k2, e0, q' _ (Same.refl _)⟩
        · intro H' s1 hd
          exact ⟨_, bs, rfl, SqL.of hd, q H' s1⟩
      · refine ⟨_, rfl, rfl, _, rfl, ?_⟩
        rw [show decide (V.str "flag" = V.str "num") = false by decide]
        refine iteF ?_
        refine ⟨_, rfl, _, rfl, ⟨_, SqL.of hp⟩, fun D hD => lc_map (xs := xs) (ys := bs.map V.bl) (SqL.of hp) hD small len ?_ ?_⟩
        · intro j x y hx hy H' Q' s1 q'
          rw [List.getElem?_map] at hy
          cases hb : bs[j]? with
          | none =>
            rw [hb] at hy
            cases hy
          | some b =>
            rw [hb] at hy
            obtain rfl : V.bl b = y := Option.some.inj hy
            obtain ⟨ty, t1, k1⟩ := h j x b hx hb
            exact ⟨x, rfl, _, _, _, _, b, rfl, .ty _, ty_same s1 t1, kit_ty k1, q' _ (Same.refl _)⟩
        · intro H' s1 hd
          exact ⟨_, bs, rfl, SqL.of hd, q H' s1⟩
/-- what a right deed gives -/
inductive Deed : Str → V → V → V → Prop where
  | plus {a b : Int} (ha : InR a) (hb : InR b) : Deed "plus" (.int a) (.int b) (.int (led (a + b)))
  | minus {a b : Int} (ha : InR a) (hb : InR b) : Deed "minus" (.int a) (.int b) (.int (led (a - b)))
  | times {a b : Int} (ha : InR a) (hb : InR b) : Deed "times" (.int a) (.int b) (.int (led (a * b)))
  | over {a b : Int} (ha : InR a) (hb : InR b) : Deed "over" (.int a) (.int b) (v_over a b)
  | rest {a b : Int} (ha : InR a) (hb : InR b) : Deed "rest" (.int a) (.int b) (v_rest a b)
  | less {a b : Int} (ha : InR a) (hb : InR b) : Deed "less" (.int a) (.int b) (.bl (decide (a < b)))
  | same {a b : Int} (ha : InR a) (hb : InR b) : Deed "same" (.int a) (.int b) (.bl (decide (V.int a = V.int b)))
  | both {x y : Bool} : Deed "both" (.bl x) (.bl y) (.bl (x && y))
  | any {x y : Bool} : Deed "any" (.bl x) (.bl y) (.bl (x || y))
/-- the def of a sign, by its name in the table -/
theorem does (T : TNum K w mg) {z : Str} {u v r : V} (d : Deed z u v r) : ∃ (x : Str) (sp : Sp), (z, x) ∈ ([("plus", "plus"), ("minus", "minus"), ("times", "times"), ("over", "over"), ("rest", "rest"), ("less", "less"), ("same", "same"), ("both", "both"), ("any", "either")] : List (Str × Str)) ∧ ¬ z = "not" ∧
    Says P w K mg base 3 x ["one", "other"] sp ∧ ∀ (H : Hp) (Q : VK) (E : XK), Q r H → sp [u, v] H Q E := by
  cases d with
  | plus ha hb => exact ⟨_, _, by decide +kernel, by decide +kernel, c_plus T, fun H Q E q => ⟨_, _, rfl, ha, hb, q⟩⟩
  | minus ha hb => exact ⟨_, _, by decide +kernel, by decide +kernel, c_minus T, fun H Q E q => ⟨_, _, rfl, ha, hb, q⟩⟩
  | times ha hb => exact ⟨_, _, by decide +kernel, by decide +kernel, c_times T, fun H Q E q => ⟨_, _, rfl, ha, hb, q⟩⟩
  | over ha hb => exact ⟨_, _, by decide +kernel, by decide +kernel, c_over T, fun H Q E q => ⟨_, _, rfl, ha, hb, q⟩⟩
  | rest ha hb => exact ⟨_, _, by decide +kernel, by decide +kernel, c_rest T, fun H Q E q => ⟨_, _, rfl, ha, hb, q⟩⟩
  | less ha hb => exact ⟨_, _, by decide +kernel, by decide +kernel, c_less T, fun H Q E q => ⟨_, _, rfl, ha, hb, q⟩⟩
  | same ha hb => exact ⟨_, _, by decide +kernel, by decide +kernel, c_same T, fun H Q E q => ⟨_, _, rfl, ha, hb, q⟩⟩
  | both => exact ⟨_, _, by decide +kernel, by decide +kernel, c_both T, fun H Q E q => ⟨_, _, rfl, q⟩⟩
  | any => exact ⟨_, _, by decide +kernel, by decide +kernel, c_either T, fun H Q E q => ⟨_, _, rfl, q⟩⟩
def sp_reckoned (K : PySem.W.Frag) : Sp := fun vs H Q _ => ∃ (z : Str) (p : Addr), vs = [.str z, .ref p] ∧
  ((z = "not" ∧ ∃ b : Bool, SqL K H p [.bl b] ∧ Q (.bl (!b)) H) ∨ ∃ u v r : V, SqL K H p [u, v] ∧ Deed z u v r ∧ Q r H)
theorem c_reckoned (T : TNum K w mg) : Says P w K mg base 4 "reckoned" ["sign", "arguments"] (sp_reckoned K) := by
  obtain ⟨dW, es, n, gW, DW, allW⟩ := T.g_WORKS
  refine says T.d_reckoned sc_reckoned (fun vs H Q E h => ?_) (fun f cdv A outer s H vs Q E hr h => ?_)
  · obtain ⟨_, _, rfl, _⟩ := h; rfl
  · obtain ⟨z, p, rfl, h⟩ := h
    rcases h with ⟨rfl, b, hp, q⟩ | ⟨u, v, r, hp, d, q⟩
    · refine ⟨_, (pss_cons (ps_if (pt_cmpR op_eq (pv 0) pe_str (nomark _))
        (pss_one (ps_ret (pe_not (pe_ix ix_list (pv 1) pe_int (fun _ _ => rfl)))))
        pss_nil)
      (pss_cons (ps_set (i := 2) sc_reckoned.nd rfl (.inl rfl) (pe_ix ix_kdict (pe_glob (v := .ref dW) rfl gW rfl) (pv 0) (fun _ _ => rfl)))
      (pss_one ps_never))), ?_⟩
      refine ⟨_, rfl, rfl, _, rfl, ?_⟩
      rw [decide_eq_true rfl]
      exact iteT ⟨_, rfl, _, _, _, _, rfl, rfl, hp, rfl, _, rfl, q⟩
    · obtain ⟨x, sp, hx, nn, S, go⟩ := does (P := P) (base := base) T d
      obtain ⟨g, hg, hW⟩ := allW _ hx
      refine ⟨_, (pss_cons (ps_if (pt_cmpR op_eq (pv 0) pe_str (nomark _))
        (pss_one (ps_ret (pe_not (pe_ix ix_list (pv 1) pe_int (fun _ _ => rfl)))))
        pss_nil)
      (pss_cons (ps_set (i := 2) sc_reckoned.nd rfl (.inl rfl) (pe_ix ix_kdict (pe_glob (v := .ref dW) rfl gW rfl) (pv 0) (fun _ _ => rfl)))
      (pss_one (ps_ret (pe_l (i := 2) S hg hr rfl (.inl rfl) (pa_cons (pe_ix ix_list (pv 1) pe_int (fun _ _ => rfl)) (pa_cons (pe_ix ix_list (pv 1) pe_int (fun _ _ => rfl)) pa_nil))))))), ?_⟩
      refine ⟨_, rfl, rfl, _, rfl, ?_⟩
      rw [decide_eq_false (fun y => nn (V.str.inj y))]
      refine iteF ?_
      refine ⟨_, rfl, _, _, .ref g, rfl, rfl, ⟨es, n, _, DW.at_, DW.lit, hW, rfl⟩, ?_⟩
      refine ⟨rfl, _, rfl, _, _, _, _, rfl, rfl, hp, rfl, _, rfl, _, _, _, _, rfl, rfl, hp, rfl, ?_⟩
      exact go _ _ _ q
/-- a right deed; what is met on the way is new -/
def sp_done : Sp := fun vs H Q _ => ∃ (z : Str) (p : Addr), vs = [.str z, .ref p] ∧
  ((z = "not" ∧ ∃ b : Bool, H p = some (.lst [.bl b]) ∧ ∀ H', Same H H' → Q (.bl (!b)) H') ∨ ∃ u v r : V, H p = some (.lst [u, v]) ∧ Deed z u v r ∧ ∀ H', Same H H' → Q r H')
/-- the shape of a right deed's sign -/
theorem shaped (T : TNum K w mg) : ∃ (d : Addr) (es : Array DictEntry) (n : Nat), mg "SHAPES" = some (.ref d) ∧ KDict K w d es n ∧ Shape K d "not" "flag" 1 "flag" ∧ ∀ {z : Str} {u v r : V}, Deed z u v r →
    ∃ kind gives : Str, Shape K d z kind 2 gives ∧ ((kind = "num" ∧ ∃ a b : Int, u = .int a ∧ v = .int b ∧ InR a ∧ InR b) ∨ (kind = "flag" ∧ ∃ x y : Bool, u = .bl x ∧ v = .bl y)) := by
  obtain ⟨d, es, n, g, D, s1, s2, s3, s4, _⟩ := T.g_SHAPES
  refine ⟨d, es, n, g, D, s4, ?_⟩
  intro z u v r e
  cases e with
  | plus ha hb => exact ⟨_, _, s1 _ (by decide +kernel), .inl ⟨rfl, _, _, rfl, rfl, ha, hb⟩⟩
  | minus ha hb => exact ⟨_, _, s1 _ (by decide +kernel), .inl ⟨rfl, _, _, rfl, rfl, ha, hb⟩⟩
  | times ha hb => exact ⟨_, _, s1 _ (by decide +kernel), .inl ⟨rfl, _, _, rfl, rfl, ha, hb⟩⟩
  | over ha hb => exact ⟨_, _, s1 _ (by decide +kernel), .inl ⟨rfl, _, _, rfl, rfl, ha, hb⟩⟩
  | rest ha hb => exact ⟨_, _, s1 _ (by decide +kernel), .inl ⟨rfl, _, _, rfl, rfl, ha, hb⟩⟩
  | less ha hb => exact ⟨_, _, s2 _ (by decide +kernel), .inl ⟨rfl, _, _, rfl, rfl, ha, hb⟩⟩
  | same ha hb => exact ⟨_, _, s2 _ (by decide +kernel), .inl ⟨rfl, _, _, rfl, rfl, ha, hb⟩⟩
  | both => exact ⟨_, _, s3 _ (by decide +kernel), .inr ⟨rfl, _, _, rfl, rfl⟩⟩
  | any => exact ⟨_, _, s3 _ (by decide +kernel), .inr ⟨rfl, _, _, rfl, rfl⟩⟩
theorem len_done : ∀ vs H Q E, sp_done vs H Q E → vs.length = (["sign", "arguments"] : List Str).length := fun vs H Q E h => by
  obtain ⟨_, _, rfl, _⟩ := h; rfl
theorem b_done (T : TNum K w mg) : Body P w K mg base 4 "done" s_done ["sign", "arguments"] sp_done := by
  obtain ⟨d, es, n, g, D, sN, sh⟩ := shaped T
  intro f cdv A outer s H vs Q E hr h
  · refine ⟨_, (pss_cons (ps_if (pt_not (pt_val (pe_s (c_is_sign T g D) hr (pa_cons (pv 0) pa_nil))))
        (pss_one ps_never)
        pss_nil)
      (pss_cons (ps_if (pt_not (pt_val (pe_s (c_is_wanted_by T g D) hr (pa_cons (pv 0) (pa_cons (pv 1) pa_nil)))))
        (pss_one ps_never)
        pss_nil)
      (pss_one (ps_ret (pe_s (c_reckoned T) hr (pa_cons (pv 0) (pa_cons (pv 1) pa_nil))))))), ?_⟩
    obtain ⟨z, p, rfl, h⟩ := h
    rcases h with ⟨rfl, b, hp, q⟩ | ⟨u, v, r, hp, e, q⟩
    · refine ⟨_, rfl, .inl ⟨_, _, rfl, sN.choose_spec.1, _, rfl, iteF ?_⟩⟩
      refine ⟨_, rfl, _, rfl, _, _, _, _, _, rfl, sN, .inr (.inr ⟨_, _, [true], rfl, hp, rfl, by show 1 < 1000; decide, rfl, .inr ⟨rfl, ?_⟩, fun H' s1 => ⟨_, rfl, iteF ?_⟩⟩)⟩
      · intro j x b' hx hb
        match j with
        | 0 =>
          obtain rfl := Option.some.inj hx
          obtain rfl := Option.some.inj hb
          exact ⟨_, .base (.bl b), by decide +kernel⟩
      · exact ⟨_, rfl, _, rfl, _, _, rfl, .inl ⟨rfl, b, SqL.of (s1 _ _ hp), q _ s1⟩⟩
    · obtain ⟨kind, gives, sz, hk⟩ := sh e
      refine ⟨_, rfl, .inl ⟨_, _, rfl, sz.choose_spec.1, _, rfl, iteF ?_⟩⟩
      refine ⟨_, rfl, _, rfl, _, _, _, _, _, rfl, sz, .inr (.inr ⟨_, _, [true, true], rfl, hp, rfl, by show 2 < 1000; decide, rfl, ?_, fun H' s1 => ⟨_, rfl, iteF ?_⟩⟩)⟩
      · rcases hk with ⟨rfl, a, b, rfl, rfl, ha, hb⟩ | ⟨rfl, x, y, rfl, rfl⟩
        · refine .inl ⟨rfl, fun j x b' hx hb' => ?_⟩
          match j with
          | 0 =>
            obtain rfl := Option.some.inj hx
            obtain rfl := Option.some.inj hb'
            exact .inl ⟨a, rfl, (inR_of ha).symm⟩
          | 1 =>
            obtain rfl := Option.some.inj hx
            obtain rfl := Option.some.inj hb'
            exact .inl ⟨b, rfl, (inR_of hb).symm⟩
        · refine .inr ⟨rfl, fun j x b' hx hb' => ?_⟩
          match j with
          | 0 =>
            obtain rfl := Option.some.inj hx
            obtain rfl := Option.some.inj hb'
            exact ⟨_, .base (.bl _), by decide +kernel⟩
          | 1 =>
            obtain rfl := Option.some.inj hx
            obtain rfl := Option.some.inj hb'
            exact ⟨_, .base (.bl _), by decide +kernel⟩
      · exact ⟨_, rfl, _, rfl, _, _, rfl, .inr ⟨u, v, r, SqL.of (s1 _ _ hp), e, q _ s1⟩⟩
theorem c_done (T : TNum K w mg) : Says P w K mg base 5 "done" ["sign", "arguments"] sp_done := says T.d_done sc_done len_done (b_done T)
theorem k_done (T : TNum K w mg) : SaysK P w K mg base 5 "done" ["sign", "arguments"] ["arguments", "sign"] List.reverse sp_done := saysK T.k_done sc_done len_done (b_done T)
end
end Cb
set_option Elab.async false
set_option linter.all false
set_option maxRecDepth 100000
set_option maxHeartbeats 4000000
/-! Data that the calls themselves have made: what stands at an address is a list, a tuple or an empty dict of such. -/
namespace Cb
open PySem PySem.Spec PyProof.Rows L2
mutual
inductive DT (H : Hp) : V → PyData → Prop
  | non : DT H .non .none
  | bl (b : Bool) : DT H (.bl b) (.bool b)
  | int (i : Int) : DT H (.int i) (.int i)
  | str (z : Str) : DT H (.str z) (.str z)
  | lst {a : Addr} {xs : List V} {ds : List PyData} : H a = some (.lst xs) → DTs H xs ds → DT H (.ref a) (.list ds)
  | tup {a : Addr} {xs : List V} {ds : List PyData} : H a = some (.tup xs) → DTs H xs ds → DT H (.ref a) (.tuple ds)
  | dct {a : Addr} : H a = some (.dK []) → DT H (.ref a) (.dict [])
inductive DTs (H : Hp) : List V → List PyData → Prop
  | nil : DTs H [] []
  | cons {v : V} {vs : List V} {d : PyData} {ds : List PyData} : DT H v d → DTs H vs ds → DTs H (v :: vs) (d :: ds)
end
mutual
theorem DT.same {H H' : Hp} (s : Same H H') : ∀ (d : PyData) {v : V}, DT H v d → DT H' v d
  | .none, _, h => by cases h; exact .non
  | .bool _, _, h => by cases h; exact .bl _
  | .int _, _, h => by cases h; exact .int _
  | .str _, _, h => by cases h; exact .str _
  | .list ds, _, h => by
    cases h with
    | lst e r => exact .lst (s _ _ e) (DTs.same s ds r)
  | .tuple ds, _, h => by
    cases h with
    | tup e r => exact .tup (s _ _ e) (DTs.same s ds r)
  | .dict _, _, h => by
    cases h with
    | dct e => exact .dct (s _ _ e)
theorem DTs.same {H H' : Hp} (s : Same H H') : ∀ (ds : List PyData) {vs : List V}, DTs H vs ds → DTs H' vs ds
  | [], _, h => by cases h; exact .nil
  | d :: ds, _, h => by
    cases h with
    | cons a r => exact .cons (DT.same s d a) (DTs.same s ds r)
end
theorem DTs.length {H : Hp} : ∀ {ds : List PyData} {vs : List V}, DTs H vs ds → vs.length = ds.length
  | [], _, h => by cases h; rfl
  | d :: ds, _, h => by
    cases h with
    | cons a r =>
      rw [List.length_cons, List.length_cons, DTs.length r]
theorem DTs.get {H : Hp} : ∀ {ds : List PyData} {vs : List V} {j : Nat} {v : V} {d : PyData}, DTs H vs ds → vs[j]? = some v → ds[j]? = some d → DT H v d
  | [], _, j, v, d, h, e, f => by simp at f
  | d0 :: ds, _, 0, v, d, h, e, f => by
    cases h with
    | cons a r =>
      simp at e f
      rw [← e, ← f]
      exact a
  | d0 :: ds, _, j + 1, v, d, h, e, f => by
    cases h with
    | cons a r =>
      simp at e f
      exact r.get e f
/-! ### types -/
def tyN : PyData → String
  | .none => "NoneType"
  | .bool _ => "bool"
  | .int _ => "int"
  | .str _ => "str"
  | .list _ => "list"
  | .tuple _ => "tuple"
  | .dict _ => "dict"
def isS : PyData → Bool
  | .str _ => true
  | _ => false
def isL : PyData → Bool
  | .list _ => true
  | _ => false
def isTu : PyData → Bool
  | .tuple _ => true
  | _ => false
theorem DT.ty {K : PySem.W.Frag} {H : Hp} {v : V} : ∀ {d : PyData}, DT H v d → TyX K H v (.type (tyN d))
  | .none, h => by cases h; exact .base .non
  | .bool _, h => by cases h; exact .base (.bl _)
  | .int _, h => by cases h; exact .base (.int _)
  | .str _, h => by cases h; exact .base (.str _)
  | .list _, h => by
    cases h with
    | lst e _ => exact .base (.lst e)
  | .tuple _, h => by
    cases h with
    | tup e _ => exact .base (.tup e)
  | .dict _, h => by
    cases h with
    | dct e => exact .base (.dK e)
theorem kit_s : ∀ d : PyData, kitB (tyN d) "str" = some (isS d)
  | .none => by show kitB "NoneType" "str" = some false; decide +kernel
  | .bool _ => by show kitB "bool" "str" = some false; decide +kernel
  | .int _ => by show kitB "int" "str" = some false; decide +kernel
  | .str _ => by show kitB "str" "str" = some true; decide +kernel
  | .list _ => by show kitB "list" "str" = some false; decide +kernel
  | .tuple _ => by show kitB "tuple" "str" = some false; decide +kernel
  | .dict _ => by show kitB "dict" "str" = some false; decide +kernel
theorem kit_l : ∀ d : PyData, kitB (tyN d) "list" = some (isL d)
  | .none => by show kitB "NoneType" "list" = some false; decide +kernel
  | .bool _ => by show kitB "bool" "list" = some false; decide +kernel
  | .int _ => by show kitB "int" "list" = some false; decide +kernel
  | .str _ => by show kitB "str" "list" = some false; decide +kernel
  | .list _ => by show kitB "list" "list" = some true; decide +kernel
  | .tuple _ => by show kitB "tuple" "list" = some false; decide +kernel
  | .dict _ => by show kitB "dict" "list" = some false; decide +kernel
theorem kit_t : ∀ d : PyData, kitB (tyN d) "tuple" = some (isTu d)
  | .none => by show kitB "NoneType" "tuple" = some false; decide +kernel
  | .bool _ => by show kitB "bool" "tuple" = some false; decide +kernel
  | .int _ => by show kitB "int" "tuple" = some false; decide +kernel
  | .str _ => by show kitB "str" "tuple" = some false; decide +kernel
  | .list _ => by show kitB "list" "tuple" = some false; decide +kernel
  | .tuple _ => by show kitB "tuple" "tuple" = some true; decide +kernel
  | .dict _ => by show kitB "dict" "tuple" = some false; decide +kernel
/-- what a call of isinstance asks of data -/
theorem isi_s {K : PySem.W.Frag} {H : Hp} {v : V} {d : PyData} {Q : VK} (h : DT H v d) (q : Q (.bl (isS d)) H) : rIsi K [v, .ty "str"] H Q := ⟨_, _, _, _, _, rfl, .ty _, h.ty, kit_ty (kit_s d), q⟩
theorem isi_l {K : PySem.W.Frag} {H : Hp} {v : V} {d : PyData} {Q : VK} (h : DT H v d) (q : Q (.bl (isL d)) H) : rIsi K [v, .ty "list"] H Q := ⟨_, _, _, _, _, rfl, .ty _, h.ty, kit_ty (kit_l d), q⟩
theorem isi_t {K : PySem.W.Frag} {H : Hp} {v : V} {d : PyData} {Q : VK} (h : DT H v d) (q : Q (.bl (isTu d)) H) : rIsi K [v, .ty "tuple"] H Q := ⟨_, _, _, _, _, rfl, .ty _, h.ty, kit_ty (kit_t d), q⟩
/-! ### for the reckoning by ==: without dicts -/
mutual
def plain : PyData → Bool
  | .dict _ => false
  | .list ds => plains ds
  | .tuple ds => plains ds
  | _ => true
def plains : List PyData → Bool
  | [] => true
  | d :: ds => plain d && plains ds
end
mutual
theorem DT.dp {K : PySem.W.Frag} {H : Hp} : ∀ {d : PyData} {v : V}, plain d = true → DT H v d → Dp K H v d
  | .none, _, _, h => by cases h; exact .non
  | .bool _, _, _, h => by cases h; exact .bl _
  | .int _, _, _, h => by cases h; exact .int _
  | .str _, _, _, h => by cases h; exact .str _
  | .list ds, _, p, h => by
    cases h with
    | lst e r => exact .lst (SqL.of e) (DTs.dp (ds := ds) (by simpa [plain] using p) r)
  | .tuple ds, _, p, h => by
    cases h with
    | tup e r => exact .tup (SqT.of e) (DTs.dp (ds := ds) (by simpa [plain] using p) r)
  | .dict _, _, p, _ => by simp [plain] at p
theorem DTs.dp {K : PySem.W.Frag} {H : Hp} : ∀ {ds : List PyData} {vs : List V}, plains ds = true → DTs H vs ds → DpAll K H vs ds
  | [], _, _, h => by cases h; exact .nil
  | d :: ds, _, p, h => by
    cases h with
    | cons a r =>
      have p2 : plain d = true ∧ plains ds = true := by simpa [plains] using p
      exact .cons (DT.dp (d := d) p2.1 a) (DTs.dp (ds := ds) p2.2 r)
end
/-! ### lists made one by one, over any walk -/
theorem lc_mapW {J : It} {n : Nat} {G : Hp → Prop} {Y : Nat → Hp → V → Hp → Prop} {i : Nat} {te : TE} {σ : L2.St} {H1 : Hp} {D : Addr} {Qd : Hp → Prop} {ys : List V} (w : Walk J n G Y) (g0 : ∀ H, Same H1 H → G H) (y0 : ∀ j H x H', Y j H x H' → H' = H) (hD : H1 D = none) (len : ys.length = n) (small : n < 1000)
    (hs : ∀ (j : Nat) (x y : V) (H' : Hp) (Q : VK), Same H1 H' → Y j H' x H' → ys[j]? = some y → (∀ H'', Same H' H'' → Q y H'') → te ((wipe σ [i]).set i (some x)) H' Q)
    (hd : ∀ H', Same H1 H' → H' D = some (.lst ys) → Qd H') :
    ∃ W : Nat → Nat → Hp → Prop, (∃ m, W 0 m (upd H1 D (.lst []))) ∧ ∀ k m H, W k m H →
      (J.stop k H ∧ Qd H) ∨ (J.go k H ∧ ∃ Nx : Hp → Prop, (∀ H', Nx H' → ∃ m', m' < m ∧ W (k + 1) m' H') ∧ ∀ x H', J.yld k H x H' → gName i x (wipe σ [i]) H' fun σ2 H2 => wipe σ2 [i] = wipe σ [i] ∧ tYes σ2 H2 fun b H3 =>
        if b = true then te σ2 H3 fun y H4 => ∃ acc, H4 D = some (.lst acc) ∧ acc.length < sizeLine ∧ Nx (upd H4 D (.lst (acc ++ [y]))) else Nx H3) := by
  refine lc_it w (fun j H' => Same H1 H' ∧ H' D = some (.lst (ys.take j))) ⟨same_new hD, upd_same⟩ (fun j H' _ z => g0 H' z.1) ?_ ?_
  · rintro j x H H' hj ⟨s1, hd1⟩ y
    obtain rfl := y0 _ _ _ _ y
    have hy : ys[j]? = some ys[j] := List.getElem?_eq_getElem (by omega)
    refine ⟨?_, ?_⟩
    · show ((wipe σ [i]).set i (some x)).set i none = wipe σ [i]
      show ((σ.set i none).set i (some x)).set i none = σ.set i none
      rw [List.set_set, List.set_set]
    · show te ((wipe σ [i]).set i (some x)) H' _
      refine hs j x _ H' _ s1 y hy ?_
      intro H'' s2
      have e2 := s2 _ _ hd1
      refine ⟨_, e2, ?_, ?_, ?_⟩
      · rw [List.length_take]
        exact Nat.lt_of_le_of_lt (Nat.min_le_right _ _) (by rw [len]; exact small1000 (by omega))
      · intro b o e
        rw [upd_ne (ne_of_none e hD)]
        exact s2 _ _ (s1 _ _ e)
      · rw [upd_same, List.take_add_one, hy]
        rfl
  · rintro H' ⟨s1, hd1⟩
    rw [List.take_of_length_le (by omega)] at hd1
    exact hd H' s1 hd1
end Cb
set_option Elab.async false
set_option linter.all false
set_option maxRecDepth 100000
set_option maxHeartbeats 4000000
namespace Cb
open PySem PySem.Spec PyProof.Rows L2
/-! ### data that can be laid out and compared -/
mutual
def good : PyData → Bool
  | .none => true
  | .bool _ => true
  | .int _ => true
  | .str z => PyData.strOk z && decide (z.length ≤ 1000)
  | .list ds => decide (ds.length < 1000) && goods ds
  | .tuple ds => decide (ds.length < 1000) && goods ds
  | .dict _ => false
def goods : List PyData → Bool
  | [] => true
  | d :: ds => good d && goods ds
end
theorem goods_mem : ∀ {ds : List PyData} {d : PyData}, goods ds = true → d ∈ ds → good d = true
  | [], _, _, h => by cases h
  | e :: ds, d, g, h => by
    have g2 : good e = true ∧ goods ds = true := by simpa [goods] using g
    rcases List.mem_cons.mp h with rfl | h
    · exact g2.1
    · exact goods_mem g2.2 h
mutual
theorem good_can : ∀ d : PyData, good d = true → d.canLay0 = true
  | .none, _ => by simp [PyData.canLay0]
  | .bool _, _ => by simp [PyData.canLay0]
  | .int _, _ => by simp [PyData.canLay0]
  | .str z, h => by
    have h2 : PyData.strOk z = true ∧ z.length ≤ 1000 := by simpa [good] using h
    simpa [PyData.canLay0] using h2.1
  | .list ds, h => by
    have h2 : ds.length < 1000 ∧ goods ds = true := by simpa [good] using h
    simpa [PyData.canLay0] using goods_can ds h2.2
  | .tuple ds, h => by
    have h2 : ds.length < 1000 ∧ goods ds = true := by simpa [good] using h
    simpa [PyData.canLay0] using goods_can ds h2.2
  | .dict _, h => by simp [good] at h
theorem goods_can : ∀ ds : List PyData, goods ds = true → PyData.canLayAll0 ds = true
  | [], _ => by simp [PyData.canLayAll0]
  | d :: ds, h => by
    have g2 : good d = true ∧ goods ds = true := by simpa [goods] using h
    simp [PyData.canLayAll0, good_can d g2.1, goods_can ds g2.2]
end
mutual
theorem good_plain : ∀ d : PyData, good d = true → plain d = true
  | .none, _ => by simp [plain]
  | .bool _, _ => by simp [plain]
  | .int _, _ => by simp [plain]
  | .str z, h => by simp [plain]
  | .list ds, h => by
    have h2 : ds.length < 1000 ∧ goods ds = true := by simpa [good] using h
    simpa [plain] using goods_plain ds h2.2
  | .tuple ds, h => by
    have h2 : ds.length < 1000 ∧ goods ds = true := by simpa [good] using h
    simpa [plain] using goods_plain ds h2.2
  | .dict _, h => by simp [good] at h
theorem goods_plain : ∀ ds : List PyData, goods ds = true → plains ds = true
  | [], _ => by simp [plains]
  | d :: ds, h => by
    have g2 : good d = true ∧ goods ds = true := by simpa [goods] using h
    simp [plains, good_plain d g2.1, goods_plain ds g2.2]
end
/-- good, and not too deep -/
structure OKd (d : PyData) : Prop where
  good : good d = true
  dep : d.depth ≤ 60
theorem OKd.shaped {d : PyData} (h : OKd d) : SeqAt.shaped d = true := by
  unfold SeqAt.shaped
  rw [good_can d h.good, Bool.true_and]
  exact decide_eq_true (Nat.le_trans h.dep (by decide))
theorem OKd.mem_l {d : PyData} {ds : List PyData} (h : OKd (.list ds)) (m : d ∈ ds) : OKd d := by
  have g := h.good
  have g2 : ds.length < 1000 ∧ goods ds = true := by simpa [Cb.good] using g
  refine ⟨goods_mem g2.2 m, ?_⟩
  have := PyData.depth_le_depthAll ds d m
  have h2 := h.dep
  simp only [PyData.depth] at h2
  omega
theorem OKd.mem_t {d : PyData} {ds : List PyData} (h : OKd (.tuple ds)) (m : d ∈ ds) : OKd d := by
  have g := h.good
  have g2 : ds.length < 1000 ∧ goods ds = true := by simpa [Cb.good] using g
  refine ⟨goods_mem g2.2 m, ?_⟩
  have := PyData.depth_le_depthAll ds d m
  have h2 := h.dep
  simp only [PyData.depth] at h2
  omega
theorem OKd.len_l {ds : List PyData} (h : OKd (.list ds)) : ds.length < 1000 := by
  have g := h.good
  have g2 : ds.length < 1000 ∧ goods ds = true := by simpa [Cb.good] using g
  exact g2.1
theorem OKd.len_t {ds : List PyData} (h : OKd (.tuple ds)) : ds.length < 1000 := by
  have g := h.good
  have g2 : ds.length < 1000 ∧ goods ds = true := by simpa [Cb.good] using g
  exact g2.1
theorem OKd.len_s {z : Str} (h : OKd (.str z)) : z.length ≤ 1000 := by
  have g := h.good
  have g2 : PyData.strOk z = true ∧ z.length ≤ 1000 := by simpa [Cb.good] using g
  exact g2.2
theorem okd_str {z : Str} (h : PyData.strOk z = true) (l : z.length ≤ 1000) : OKd (.str z) := by
  refine ⟨?_, ?_⟩
  · simp [Cb.good, h, l]
  · simp [PyData.depth]
/-! ### == of an item and a text -/
theorem eqv_str (z y : Str) : PyData.eqv (.str z) (.str y) = decide (z = y) := by
  simp only [PyData.eqv]
  by_cases h : z = y <;> simp [h]
def isStr (y : Str) : PyData → Bool
  | .str z => decide (z = y)
  | _ => false
theorem eqv_isStr (y : Str) : ∀ d : PyData, PyData.eqv d (.str y) = isStr y d
  | .none => by simp [PyData.eqv, isStr]
  | .bool _ => by simp [PyData.eqv, isStr]
  | .int _ => by simp [PyData.eqv, isStr]
  | .str z => eqv_str z y
  | .list _ => by simp [PyData.eqv, isStr]
  | .tuple _ => by simp [PyData.eqv, isStr]
  | .dict _ => by simp [PyData.eqv, isStr]
/-! ### tests of what is known -/
theorem ifNot {p : Prop} [Decidable p] {A B : Prop} (hA : ¬ p → A) (hB : p → B) : if (!decide p) = true then A else B := by
  by_cases h : p
  · rw [decide_eq_true h]
    exact iteF (hB h)
  · rw [decide_eq_false h]
    exact iteT (hA h)
theorem ifB {b : Bool} {A B : Prop} (hA : b = true → A) (hB : b = false → B) : if b = true then A else B := by
  cases b with
  | true => exact iteT (hA rfl)
  | false => exact iteF (hB rfl)
theorem ifN {z y : Str} {A B : Prop} (h : ¬ z = y) (b : B) : if decide (V.str z = V.str y) = true then A else B := by
  rw [decide_eq_false (fun e => h (V.str.inj e))]
  exact iteF b
theorem ifY {z y : Str} {A B : Prop} (h : z = y) (a : A) : if decide (V.str z = V.str y) = true then A else B := by
  rw [decide_eq_true (congrArg V.str h)]
  exact iteT a
/-! ### signs of texts -/
def lowC (c : Nat) : Bool := decide (97 ≤ c) && decide (c ≤ 122)
def digC (c : Nat) : Bool := decide (48 ≤ c) && decide (c ≤ 57)
theorem lt1 (a c : Nat) : ([c] < [a]) ↔ c < a := by
  rw [List.cons_lt_cons_iff]
  simp
end Cb
set_option Elab.async false
set_option linter.all false
set_option maxRecDepth 100000
set_option maxHeartbeats 4000000
namespace Cb
open PySem PySem.Spec PyProof.Rows L2
/-! ### what is not looked at -/
def hid (S : List Addr) (H : Hp) : Hp := fun b => if b ∈ S then none else H b
def Keep (S : List Addr) (H H' : Hp) : Prop := ∀ b o, b ∉ S → H b = some o → H' b = some o
theorem hid_at {S : List Addr} {H : Hp} {b : Addr} {o : HO} (n : b ∉ S) (e : H b = some o) : hid S H b = some o := by
  unfold hid
  rw [if_neg n]
  exact e
theorem hid_out {S : List Addr} {H : Hp} {b : Addr} {o : HO} (e : hid S H b = some o) : b ∉ S ∧ H b = some o := by
  unfold hid at e
  split at e
  · cases e
  · exact ⟨by assumption, e⟩
theorem Keep.hid {S : List Addr} {H H' : Hp} (k : Keep S H H') : Same (hid S H) (hid S H') := fun b o e => by
  obtain ⟨n, e2⟩ := hid_out e
  exact hid_at n (k b o n e2)
theorem hid_same {S : List Addr} {H : Hp} : Same (hid S H) H := fun b o e => (hid_out e).2
theorem hid_mono {S S' : List Addr} {H : Hp} (h : ∀ b, b ∈ S → b ∈ S') : Same (hid S' H) (hid S H) := fun b o e => by
  obtain ⟨n, e2⟩ := hid_out e
  exact hid_at (fun z => n (h b z)) e2
theorem Same.keep {S : List Addr} {H H' : Hp} (s : Same H H') : Keep S H H' := fun b o _ e => s b o e
theorem Keep.trans {S : List Addr} {H H' H'' : Hp} (a : Keep S H H') (b : Keep S H' H'') : Keep S H H'' := fun c o n e => b c o n (a c o n e)
theorem Keep.refl {S : List Addr} {H : Hp} : Keep S H H := fun _ _ _ e => e
theorem Keep.mono {S S' : List Addr} {H H' : Hp} (k : Keep S H H') (h : ∀ b, b ∈ S → b ∈ S') : Keep S' H H' := fun b o n e => k b o (fun z => n (h b z)) e
/-- writing what is hidden -/
theorem keep_upd {S : List Addr} {H : Hp} {p : Addr} {o : HO} (h : p ∈ S) : Keep S H (upd H p o) := fun b u n e => by
  rw [upd_ne (show b ≠ p from fun z => n (by rw [z]; exact h))]
  exact e
theorem keep_new {S : List Addr} {H : Hp} {p : Addr} {o : HO} (h : H p = none) : Keep S H (upd H p o) := fun b u _ e => same_new h b u e
/-- what was new when S' was told may be hidden no more -/
theorem Keep.less {S S' : List Addr} {H H' : Hp} (k : Keep S' H H') (h : ∀ b, b ∈ S' → b ∉ S → H b = none) : Keep S H H' := fun b o n e => by
  by_cases z : b ∈ S'
  · rw [h b z n] at e
    cases e
  · exact k b o z e
/-! ### data of bounded size -/
def fit : List Nat → PyData → Bool
  | _, .none => true
  | _, .bool _ => true
  | _, .int i => decide (i = 0) || decide (i = 7)
  | _, .str z => PyData.strOk z && decide (z.length ≤ 40)
  | w :: ws, .list ds => decide (ds.length ≤ w) && ds.all (fit ws)
  | w :: ws, .tuple ds => decide (ds.length ≤ w) && ds.all (fit ws)
  | _, _ => false
def bulk : List Nat → Nat
  | [] => 40
  | w :: ws => 40 + w * (bulk ws + 1)
theorem bulk_40 : ∀ ws, 40 ≤ bulk ws
  | [] => Nat.le_refl _
  | w :: ws => by
    unfold bulk
    omega
theorem weightAll_le {n : Nat} : ∀ {ds : List PyData}, (∀ d ∈ ds, d.weight ≤ n) → PyData.weightAll ds ≤ ds.length * (n + 1)
  | [], _ => by simp [PyData.weightAll]
  | d :: ds, h => by
    have h1 := h d (List.mem_cons_self ..)
    have h2 := weightAll_le (ds := ds) fun e he => h e (List.mem_cons_of_mem _ he)
    simp only [PyData.weightAll, List.length_cons]
    rw [Nat.add_mul]
    omega
theorem canAll {ds : List PyData} (h : ∀ d ∈ ds, d.canLay0 = true) : PyData.canLayAll0 ds = true := by
  induction ds with
  | nil => simp [PyData.canLayAll0]
  | cons d ds ih => simp [PyData.canLayAll0, h d (List.mem_cons_self ..), ih fun e he => h e (List.mem_cons_of_mem _ he)]
theorem depthAll_le {n : Nat} {ds : List PyData} (h : ∀ d ∈ ds, d.depth ≤ n) : PyData.depthAll ds ≤ n := by
  induction ds with
  | nil => simp [PyData.depthAll]
  | cons d ds ih =>
    have h1 := h d (List.mem_cons_self ..)
    have h2 := ih fun e he => h e (List.mem_cons_of_mem _ he)
    simp only [PyData.depthAll]
    omega
/-- what fits is good, can be laid out, compared and shown -/
structure Fits (ws : List Nat) (d : PyData) : Prop where
  good : good d = true
  dep : d.depth ≤ ws.length
  wgt : d.weight ≤ bulk ws
  short : d.intsShort 13 = true
  shw : d.showable = true
  nod : d.hasDict = false
theorem goods_of : ∀ {ds : List PyData}, (∀ d ∈ ds, good d = true) → goods ds = true
  | [], _ => rfl
  | d :: ds, h => by
    simp only [goods, h d (List.mem_cons_self ..), goods_of (ds := ds) fun e he => h e (List.mem_cons_of_mem _ he), Bool.and_self]
theorem showAll_of : ∀ {ds : List PyData}, (∀ d ∈ ds, d.showable = true) → PyData.showableAll ds = true
  | [], _ => by simp [PyData.showableAll]
  | d :: ds, h => by
    simp only [PyData.showableAll, h d (List.mem_cons_self ..), showAll_of (ds := ds) fun e he => h e (List.mem_cons_of_mem _ he), Bool.and_self]
theorem shortAll_of : ∀ {ds : List PyData}, (∀ d ∈ ds, d.intsShort 13 = true) → PyData.intsShortAll 13 ds = true
  | [], _ => by simp [PyData.intsShortAll]
  | d :: ds, h => by
    simp only [PyData.intsShortAll, h d (List.mem_cons_self ..), shortAll_of (ds := ds) fun e he => h e (List.mem_cons_of_mem _ he), Bool.and_self]
theorem nodAll_of : ∀ {ds : List PyData}, (∀ d ∈ ds, d.hasDict = false) → PyData.hasDictAll ds = false
  | [], _ => by simp [PyData.hasDictAll]
  | d :: ds, h => by
    simp only [PyData.hasDictAll, h d (List.mem_cons_self ..), nodAll_of (ds := ds) fun e he => h e (List.mem_cons_of_mem _ he), Bool.or_self]
theorem log_100 {i : Int} (h : i.natAbs < 100) : i.natAbs.log2 < 1920 := Nat.lt_of_lt_of_le (PySem.Flt.log2_lt_of (by decide) (show i.natAbs < 2 ^ 7 by omega)) (by decide)
theorem fits_of : ∀ (ws : List Nat), (∀ w ∈ ws, w < 1000) → ∀ d : PyData, fit ws d = true → Fits ws d
  | ws, _, .none, _ => ⟨rfl, by simp [PyData.depth], by simp [PyData.weight], by simp [PyData.intsShort], by simp [PyData.showable], by simp [PyData.hasDict]⟩
  | ws, _, .bool _, _ => ⟨rfl, by simp [PyData.depth], by simp [PyData.weight], by simp [PyData.intsShort], by simp [PyData.showable], by simp [PyData.hasDict]⟩
  | ws, _, .int i, h => by
    have h2 : i = 0 ∨ i = 7 := by cases ws <;> simpa [fit] using h
    have h40 := bulk_40 ws
    rcases h2 with rfl | rfl
    · exact ⟨rfl, by simp [PyData.depth], by simp [PyData.weight], by decide +kernel, by decide +kernel, by simp [PyData.hasDict]⟩
    · exact ⟨rfl, by simp [PyData.depth], Nat.le_trans (by decide +kernel) h40, by decide +kernel, by decide +kernel, by simp [PyData.hasDict]⟩
  | ws, _, .str z, h => by
    have h2 : PyData.strOk z = true ∧ z.length ≤ 40 := by cases ws <;> simpa [fit] using h
    have h40 := bulk_40 ws
    refine ⟨?_, by simp [PyData.depth], ?_, by simp [PyData.intsShort], by simp [PyData.showable], by simp [PyData.hasDict]⟩
    · simp only [Cb.good, h2.1, Bool.true_and]
      exact decide_eq_true (Nat.le_trans h2.2 (by decide))
    · simp only [PyData.weight]
      exact Nat.le_trans h2.2 h40
  | [], _, .list _, h => by simp [fit] at h
  | [], _, .tuple _, h => by simp [fit] at h
  | [], _, .dict _, h => by simp [fit] at h
  | _ :: _, _, .dict _, h => by simp [fit] at h
  | w :: ws, hw, .list ds, h => by
    have h2 : ds.length ≤ w ∧ ds.all (fit ws) = true := by simpa only [fit, Bool.and_eq_true, decide_eq_true_eq] using h
    have all : ∀ d ∈ ds, Fits ws d := fun d hd => fits_of ws (fun x hx => hw x (List.mem_cons_of_mem _ hx)) d (List.all_eq_true.mp h2.2 d hd)
    have w1 := hw w (List.mem_cons_self ..)
    refine ⟨?_, ?_, ?_, ?_, ?_, ?_⟩
    · simp only [Cb.good, goods_of fun d hd => (all d hd).good, Bool.and_true]
      exact decide_eq_true (by omega)
    · have := depthAll_le fun d hd => (all d hd).dep
      simp only [PyData.depth, List.length_cons]
      omega
    · have h3 := weightAll_le fun d hd => (all d hd).wgt
      have h4 : ds.length * (bulk ws + 1) ≤ w * (bulk ws + 1) := Nat.mul_le_mul_right _ h2.1
      simp only [PyData.weight, bulk]
      omega
    · simp only [PyData.intsShort]
      exact shortAll_of fun d hd => (all d hd).short
    · simp only [PyData.showable]
      exact showAll_of fun d hd => (all d hd).shw
    · simp only [PyData.hasDict]
      exact nodAll_of fun d hd => (all d hd).nod
  | w :: ws, hw, .tuple ds, h => by
    have h2 : ds.length ≤ w ∧ ds.all (fit ws) = true := by simpa only [fit, Bool.and_eq_true, decide_eq_true_eq] using h
    have all : ∀ d ∈ ds, Fits ws d := fun d hd => fits_of ws (fun x hx => hw x (List.mem_cons_of_mem _ hx)) d (List.all_eq_true.mp h2.2 d hd)
    have w1 := hw w (List.mem_cons_self ..)
    refine ⟨?_, ?_, ?_, ?_, ?_, ?_⟩
    · simp only [Cb.good, goods_of fun d hd => (all d hd).good, Bool.and_true]
      exact decide_eq_true (by omega)
    · have := depthAll_le fun d hd => (all d hd).dep
      simp only [PyData.depth, List.length_cons]
      omega
    · have h3 := weightAll_le fun d hd => (all d hd).wgt
      have h4 : ds.length * (bulk ws + 1) ≤ w * (bulk ws + 1) := Nat.mul_le_mul_right _ h2.1
      simp only [PyData.weight, bulk]
      omega
    · simp only [PyData.intsShort]
      exact shortAll_of fun d hd => (all d hd).short
    · simp only [PyData.showable]
      exact showAll_of fun d hd => (all d hd).shw
    · simp only [PyData.hasDict]
      exact nodAll_of fun d hd => (all d hd).nod
theorem Fits.ok {ws : List Nat} {d : PyData} (f : Fits ws d) (l : ws.length ≤ 60) : OKd d := ⟨f.good, Nat.le_trans f.dep l⟩
theorem Fits.len {ws : List Nat} {d : PyData} (f : Fits ws d) (l : ws.length ≤ 60) (b : bulk ws ≤ 2 ^ 20) : d.shown.length ≤ sizeLine := by
  refine Nat.le_trans (PyProof.Rows.shown_le13 ?_ f.short) (by decide)
  simp only [PyData.layable0, good_can d f.good, Bool.true_and, Bool.and_eq_true, decide_eq_true_eq]
  exact ⟨Nat.le_trans f.dep (by omega), Nat.le_trans f.wgt b⟩
/-- its text, asked by call_repr -/
theorem r_fits {K : PySem.W.Frag} {u : Nat} {H : Hp} {Q : VK} {v : V} {d : PyData} {ws : List Nat} (h : DT H v d) (f : Fits ws d) (l : ws.length ≤ 60) (b : bulk ws ≤ 2 ^ 20) (hu : u + 200 < cLine) (q : Q (.str (PyData.shown d)) H) : rRepr K u [v] H Q := by
  unfold rRepr
  exact ⟨v, d, rfl, h.dp (good_plain d f.good), f.shw, f.nod, by have := f.dep; omega, .inr (f.len l b), q⟩
end Cb
set_option Elab.async false
set_option linter.all false
set_option maxRecDepth 100000
set_option maxHeartbeats 4000000
/-! Exceptions of a class of the program whose __init__ says super().__init__(), its base class being the program's own too. -/
namespace ExS
open PySem PySem.W PySem.Calls PyProof.Rows
/-- what does not change: the written part, the module's names, the built-in ones -/
structure Bs (K : Frag) (mg mb : Str → Option Value) (h : Heap) : Prop where
  kin : K.In h
  glob : h.Ns mainGlobals mg
  blt : h.Ns builtinsNs mb
  sup : mg "super" = none
  bsup : mb "super" = some (.type "super")
  nol : h.NoLimit
theorem Bs.keeps {K : Frag} {mg mb : Str → Option Value} {h h' : Heap} (b : Bs K mg mb h) (k : ∀ b o, h.get? b = some o → h'.get? b = some o) : Bs K mg mb h' :=
  ⟨b.kin.keeps k, b.glob.keeps k, b.blt.keeps k, b.sup, b.bsup, b.nol.keeps k⟩
/-- a def of a class D, with its cell of __class__ -/
structure SupFn (K : Frag) (prog : Program) (f D cda cc : Addr) (qual : Str) (params : Arguments) (body : List Stmt) (scope : Scope) (fd : FuncData) : Prop where
  ex : ∃ (name : Str) (dV kV doc pm ct : Value) (od an : Option Addr) (osl : Array (Option Value)), fd = ksFn name qual params body scope dV kV doc pm an (.ref cda) ct cc ∧ K.lookup f = some ⟨.type "function", od, .func fd, osl⟩
  code : codeIn K (.ref cda) qual = true
  at_ : ∃ (c : Value) (cd : Option Addr) (vs : Array Value) (cs : Array (Option Value)) (file : Str) (tf : Tok), K.lookup cda = some ⟨c, cd, .fields vs, cs⟩ ∧ vs[2]? = some (.str file tf) ∧ ((prog.main.file : Str) == file) = true
  cell : ∃ (cl : Value) (cld : Option Addr) (csl : Array (Option Value)), K.lookup cc = some ⟨cl, cld, .cell (some (.ref D)), csl⟩
  cls : ∃ cd : ClassData, clsIn K D = some cd
/-- the program's file knows no name super -/
def NoSup (prog : Program) : Prop := (prog.main.scope.names.lookup ("super" : Str)).isSome = false
section
variable {prog : Program} {w : World} {A : Around} {E : Value → Shared → Prop} {h : Heap} {g : Array GenState} {d : Drawn} {t : Nat} {os : OsState} {K : Frag} {mg mb : Str → Option Value} {f D C x L cda cc : Addr} {qual : Str} {params : Arguments} {body body' : List Stmt} {scope : Scope} {fd : FuncData} {ox : Obj} {odx : Option Obj} {m : Str → Option Value} {ar : Arg} {attr : Str} {p0 p1 : Pos} {whole : Sem Value}
theorem clsAt {cd : ClassData} (X : K.In h) (hD : clsIn K D = some cd) : ∃ oD, h.get? D = some oD ∧ oD.data = .cls cd := by
  unfold clsIn at hD
  split at hD
  · rename_i c d cd' sl ho
    cases hD
    exact ⟨_, X _ _ ho, rfl⟩
  · cases hD
theorem sup_base {Q : Value → Shared → Prop} (B : Bs K mg mb h) (S : SupFn K prog f D cda cc qual params body scope fd) (ns : NoSup prog) (hn : h.Ns L m) (hp : (params.posonlyargs ++ params.args).head? = some ar) (hv : m ar.arg = some (.ref x)) (I : InstAt h x ox C odx)
    (hsub : mroIn K C (.ref D) = some true) (hat : (attr == ("__class__" : Str)) = false) (hks : scope.names.lookup ("super" : Str) = some .globalImplicit) (hkc : scope.names.lookup ("__class__" : Str) = some .free) (hka : scope.names.lookup ar.arg = some .local) (hk : scope.kind = .function)
    (q : ∀ h', h'.get? h.objs.size = some (ks_superObj D x C) → (∀ y o, h.get? y = some o → h'.get? y = some o) → Q (.ref h.objs.size) ⟨h', g, d, t, os⟩) :
    _root_.PySem.wpAt (model prog w) A (.func body' (ksEnv qual scope L f (.ref cda) cc)) (attributeBase (.Call (.Name "super" p0) [] [] p1) attr (ksEnv qual scope L f (.ref cda) cc) whole) Q E ⟨h, g, d, t, os⟩ := by
  obtain ⟨name, dV, kV, doc, pm, ct, od, an, osl, rfl, lf⟩ := S.ex
  obtain ⟨c, cd, vs, cs, file, tf, lc, hvs, hfile⟩ := S.at_
  obtain ⟨cl, cld, csl, lcell⟩ := S.cell
  obtain ⟨cdD, hD⟩ := S.cls
  have X := B.kin
  obtain ⟨oD, hD1, hD2⟩ := clsAt X hD
  refine ks_wpAt_super_base (env := ksEnv qual scope L f (.ref cda) cc) hks hkc hat rfl (X _ _ lf) rfl hp rfl (X _ _ lc) rfl hvs hfile ns ?_
  refine ks_loadName_global hk hks (loadGlobal_builtin (env := ksEnv qual scope L f (.ref cda) cc) B.glob B.sup B.blt B.bsup ⟨rfl, ?_⟩)
  refine wpAny_loadName_free hk hkc rfl ⟨_, X _ _ lcell, rfl⟩ ?_
  refine wpAny_loadName_local hk hka hn hv ?_
  refine ks_wpAny_isType_cls hD1 hD2 ⟨rfl, ?_⟩
  refine ks_wpAny_call_super hD1 hD2 I.at_ I.cls (fun c e => ?_) (looks_mroIn X hsub) (fun h' e k => q h' e k)
  have := I.no
  unfold notCls at this
  rw [e] at this
  exact Bool.noConfusion this
/-! ### super().__init__() that finds ValueError's -/
theorem mw_call {u t0 : Addr} {dv : Option Addr} {c2 : Value} {nm qn : Str} {N : Addr} {bs bm bmB : List Value} {hdct : Bool} {sn : List Str} {sub : List Value} {ab : Bool} {col : Option Bool} {dd : Option Addr} {k0 k1 k2 k3 k5 : Option Value} {Bn newId initId : String} {Q : Value → Shared → Prop}
    (FB : ExcBaseFacts Bn newId initId bmB) (hC : h.get? C = some (excClassObj nm qn C N bs bm hdct sn sub ab col dd k0 k1 k2 k3 k5 newId)) (he : h.get? x = some (excRec (.ref C) t0 dv c2 .none (.bool false))) (hu : h.get? u = some (kxs_mw initId x))
    (q : ∀ h', (∀ b o, b ≠ x → h.get? b = some o → h'.get? b = some o) → h'.get? x = some (excRec (.ref C) h.objs.size dv c2 .none (.bool false)) → Q .none ⟨h', g, d, t, os⟩) :
    wpAny (model prog w) A (call (.ref u) []) Q E ⟨h, g, d, t, os⟩ := by
  refine wpAny_call (codeAny_of_tree ?_)
  show wpAny _ A.in1 (callAny (.ref u) ⟨[], []⟩) _ _ _
  simp only [callAny]
  refine wpAny_bind (wpAny_load hu ?_)
  simp only [kxs_mw, show (Value.type "method-wrapper" == Value.type "method" || Value.type "method-wrapper" == Value.type "builtin_function_or_method" || Value.type "method-wrapper" == Value.type "method-wrapper") = true by decide, if_true]
  refine KFB.if_so (by decide) ?_
  refine wpAny_bind (check_bound_init FB.toExcCallFacts hC he rfl ?_)
  refine wpAny_bind (wpAny_pure (wpAny_pure ?_))
  refine ⟨plainId_quiet FB.init.plain _, codeAny_builtin FB.initEntry ?_⟩
  exact exc_init_tree (cls := .ref C) (t0 := t0) (dv := dv) (c2 := c2) (c3 := .none) (b4 := .bool false) he (by decide) fun h' k e' _ => q h' k e'
end
end ExS
set_option Elab.async false
set_option linter.all false
set_option maxRecDepth 100000
set_option maxHeartbeats 4000000
namespace ExS
open PySem PySem.W PySem.Calls PyProof.Rows
abbrev bSup (p0 p1 p2 p3 p4 : Pos) : Stmt := .Expr (.Call (.Attribute (.Call (.Name "super" p0) [] [] p1) "__init__" p2) [] [] p3) p4
abbrev bVal (p5 p6 p7 p8 : Pos) : Stmt := .Assign [.Attribute (.Name "self" p5) "value" p6] (.Name "value" p7) p8
abbrev exN (C t : Addr) : Obj := excRec (.ref C) t none .none .none (.bool false)
abbrev exD (C t dx : Addr) : Obj := excRec (.ref C) t (some dx) .none .none (.bool false)
abbrev scB : Scope := { kind := .function, names := [("self", .local), ("__class__", .free), ("super", .globalImplicit)], isGenerator := false, isCoroutine := false, more := [] }
abbrev scI : Scope := { kind := .function, names := [("self", .local), ("value", .local), ("__class__", .free), ("super", .globalImplicit)], isGenerator := false, isCoroutine := false, more := [] }
/-- the call stands on one line -/
def Line (p0 p1 p2 p3 : Pos) : Prop := ∀ env : Env, eval (.Call (.Attribute (.Call (.Name "super" p0) [] [] p1) "__init__" p2) [] [] p3) env = (do
  let ov ← attributeBase (.Call (.Name "super" p0) [] [] p1) "__init__" env (eval (.Call (.Name "super" p0) [] [] p1) env)
  standAt p2.atName
  let (f, first) ← holding [ov] (getMethod ov "__init__" (do return (← importBound (.Call (.Name "super" p0) [] [] p1) env).getD true))
  callWith p3 f first (backTo p3 (starEach [] env)) [])
/-- an own class of the program over ValueError, of some depth -/
structure OwnC (K : Frag) (C DB fB : Addr) : Prop where
  cls : ∃ nm q N bs bm hdct sn sub ab col dd k0 k1 k2 k3 k5, K.lookup C = some (excClassObj nm q C N bs bm hdct sn sub ab col dd k0 k1 k2 k3 k5 "ValueError.__new__")
  cd : ∃ cd : ClassData, clsIn K C = some cd
  tp : nsIn K cStatics "thirdparty.any" = some none
  subB : mroIn K C (.ref DB) = some true
  initB : ks_superIn K C DB "__init__" = some (some (.builtin "ValueError.__init__"))
  veB : subIn K (.ref C) (.type "ValueError") = some true
section
variable {prog : Program} {w : World} {A : Around} {E : Value → Shared → Prop} {R : Result → Shared → Prop} {h h₀ : Heap} {g : Array GenState} {d : Drawn} {t : Nat} {os : OsState} {K : Frag} {mg mb : Str → Option Value} {C DB fB cdaB ccB x t0 : Addr} {qB : Str} {params : Arguments} {fdB : FuncData} {p0 p1 p2 p3 p4 : Pos}
theorem instN {h : Heap} (hx : h.get? x = some (exN C t0)) : InstAt h x (exN C t0) C none := ⟨hx, rfl, rfl, trivial⟩
/-- BillError.__init__(self) -/
theorem call_base (B : Bs K mg mb h₀) (k0 : ∀ b o, h₀.get? b = some o → h.get? b = some o) (S : SupFn K prog fB DB cdaB ccB qB params [bSup p0 p1 p2 p3 p4] scB fdB) (ns : NoSup prog) (O : OwnC K C DB fB) (ln : Line p0 p1 p2 p3) (room : A.depth < recursionLimit)
    (hx : h.get? x = some (exN C t0)) (hp : (params.posonlyargs ++ params.args).head?.map (·.arg) = some "self") (hbind : bindArgs fdB ⟨[.ref x], []⟩ = pure [(("self" : Str), Value.ref x)])
    (q : ∀ h' tk t1, (∀ b o, b ≠ x → h.get? b = some o → h'.get? b = some o) → h'.get? x = some (exN C t1) → R (.ok (.ret .none)) ⟨h', g, d, tk, os⟩) :
    codeAny (model prog w) A (.call (.ref fB) ⟨[.ref x], []⟩) R ⟨h, g, d, t, os⟩ := by
  have B1 := B.keeps k0
  have S' := S
  obtain ⟨name, dV, kV, doc, pm, ct, od, an, osl, efd, lf⟩ := S.ex
  obtain ⟨nm, qn, N, bs, bm, hdct, sn, sub, ab, col, dd, kk0, kk1, kk2, kk3, kk5, hC⟩ := O.cls
  obtain ⟨cd, hcd⟩ := O.cd
  obtain ⟨ar, har, ear⟩ : ∃ ar, (params.posonlyargs ++ params.args).head? = some ar ∧ ar.arg = "self" := by
    cases e : (params.posonlyargs ++ params.args).head? with
    | none => rw [e] at hp; cases hp
    | some ar => rw [e] at hp; exact ⟨ar, rfl, Option.some.inj hp⟩
  subst efd
  refine ks_codeAny_call_defAt (fd := ksFn name qB params [bSup p0 p1 p2 p3 p4] scB dV kV doc pm an (.ref cdaB) ct ccB) (body := [bSup p0 p1 p2 p3 p4]) (binds := [(("self" : Str), Value.ref x)]) room (B1.kin _ _ lf) rfl B1.nol (codeRec_of B1.kin S.code) rfl (.of_eq hbind) (show ∀ y ∈ scB.names, y.2 ≠ .cell by decide) (fun y hy => by
    rw [List.mem_singleton.mp hy]
    rfl) (fun h₁ hns hk₁ => ?_)
  refine ks_wpAt_execs_cons (ks_wpAt_Expr_any (ks_wpAt_MethodCall ?_ (ln _)))
  have hx1 := hk₁ _ _ hx
  have B2 := B1.keeps hk₁
  have hself : (fun y => List.lookup y ([(("self" : Str), Value.ref x)] : List (Str × Value)).reverse) ar.arg = some (.ref x) := by
    rw [ear]
    rfl
  refine sup_base B2 S' ns hns har hself (instN hx1) O.subB rfl rfl rfl (by rw [ear]; rfl) rfl (fun h2 hso k2 => ?_)
  have B3 := B2.keeps k2
  have hx2 := k2 _ _ hx1
  have hm := O.initB
  unfold ks_superIn at hm
  rw [hcd] at hm
  refine kxs_getMethod kxs_ValueError hso (looks_opaque B3.kin O.tp) (l₀ := cd.mro) (fun A Q E s k q => wpAny_bind ((looks_clsIn B3.kin hcd) A _ E s k (wpAny_pure q))) rfl B3.kin hm ((instN hx2).type.andThen (looks_subIn B3.kin O.veB)) (ks_ne B3.kin (instN hx2) hcd) rfl ?_
  have k3 : ∀ b o, h2.get? b = some o → (h2.push (kxs_mw "ValueError.__init__" x)).get? b = some o := fun b o e => Heap.get?_push_of_some _ e
  have hu : (h2.push (kxs_mw "ValueError.__init__" x)).get? h2.objs.size = some (kxs_mw "ValueError.__init__" x) := Heap.get?_push_at rfl rfl
  refine kxs_callWith (i := "ValueError.__init__") (x := x) rfl (evalArgs_empty ⟨hu, ?_⟩)
  show wpAny _ _ (call (.ref h2.objs.size) []) _ _ _
  refine mw_call PySem.F.excBase_ValueError ((B3.kin.keeps k3) _ _ hC) (k3 _ _ hx2) hu (fun h4 k4 e4 => ?_)
  show _root_.PySem.wpAt _ _ _ (execs [] _) _ _ _
  refine wpAt_of_wpAny (wpAny_pure ?_)
  exact q h4 _ _ (fun b o hb e => k4 b o hb (k3 b o (k2 b o (hk₁ b o e)))) e4
end
end ExS
set_option Elab.async false
set_option linter.all false
set_option maxRecDepth 100000
set_option maxHeartbeats 4000000
namespace ExS
open PySem PySem.W PySem.Calls PyProof.Rows
/-- such a class with an __init__ of its own: super().__init__(), then self.value = value -/
structure OwnI (K : Frag) (C fI DB fB : Addr) : Prop where
  own : OwnC K C DB fB
  initC : ks_superIn K C C "__init__" = some (some (.ref fB))
  subC : mroIn K C (.ref C) = some true
  fnB : fnIn K fB = true
  mro : ∃ cd : ClassData, clsIn K C = some cd ∧ HandSPX.refsVE cd.mro = true ∧ cd.hasDict = true
  sa : findIn K (.ref C) "__setattr__" = some (some (.builtin "object.__setattr__"))
  noV : findIn K (.ref C) "value" = some none
section
variable {prog : Program} {w : World} {A : Around} {E : Value → Shared → Prop} {R : Result → Shared → Prop} {h h₀ : Heap} {g : Array GenState} {d : Drawn} {t : Nat} {os : OsState} {K : Frag} {mg mb : Str → Option Value} {C fI cdaI ccI DB fB cdaB ccB x t0 : Addr} {qI qB : Str} {parI parB : Arguments} {fdI fdB : FuncData} {p0 p1 p2 p3 p4 p5 p6 p7 p8 r0 r1 r2 r3 r4 : Pos} {v : Value}
theorem nsAt {L : Addr} {m : Str → Option Value} {h h' : Heap} (n : h.Ns L m) (k : ∀ o, h.get? L = some o → h'.get? L = some o) : h'.Ns L m := by
  obtain ⟨o, es, ep, ho, r⟩ := n
  exact ⟨o, es, ep, k o ho, r⟩
/-- __init__(self, value) -/
theorem call_init (B : Bs K mg mb h₀) (k0 : ∀ b o, h₀.get? b = some o → h.get? b = some o) (x0 : h₀.get? x = none) (SI : SupFn K prog fI C cdaI ccI qI parI [bSup p0 p1 p2 p3 p4, bVal p5 p6 p7 p8] scI fdI) (SB : SupFn K prog fB DB cdaB ccB qB parB [bSup r0 r1 r2 r3 r4] scB fdB) (ns : NoSup prog) (O : OwnI K C fI DB fB) (ln : Line p0 p1 p2 p3) (ln2 : Line r0 r1 r2 r3) (room : A.depth + 1 < recursionLimit)
    (hx : h.get? x = some (exN C t0)) (hpI : (parI.posonlyargs ++ parI.args).head?.map (·.arg) = some "self") (hpB : (parB.posonlyargs ++ parB.args).head?.map (·.arg) = some "self") (hbI : ∀ s : Shared, K.In s.heap → BindsTo s fdI ⟨[.ref x, v], []⟩ [(("self" : Str), Value.ref x), (("value" : Str), v)]) (hbB : bindArgs fdB ⟨[.ref x], []⟩ = pure [(("self" : Str), Value.ref x)])
    (q : ∀ h' tk t1 dx, (∀ b o, b ≠ x → h.get? b = some o → h'.get? b = some o) → h.objs.size ≤ dx → dx ≠ x → h'.get? x = some (exD C t1 dx) → h'.Ns1 dx (fun y => if y = ("value" : Str) then some v else none) → R (.ok (.ret .none)) ⟨h', g, d, tk, os⟩) :
    codeAny (model prog w) A (.call (.ref fI) ⟨[.ref x, v], []⟩) R ⟨h, g, d, t, os⟩ := by
  have B1 := B.keeps k0
  have S' := SI
  obtain ⟨name, dV, kV, doc, pm, ct, od, an, osl, efd, lf⟩ := SI.ex
  obtain ⟨cd, hcd, hve, hdict⟩ := O.mro
  obtain ⟨ar, har, ear⟩ : ∃ ar, (parI.posonlyargs ++ parI.args).head? = some ar ∧ ar.arg = "self" := by
    cases e : (parI.posonlyargs ++ parI.args).head? with
    | none => rw [e] at hpI; cases hpI
    | some ar => rw [e] at hpI; exact ⟨ar, rfl, Option.some.inj hpI⟩
  subst efd
  refine ks_codeAny_call_defAt (fd := ksFn name qI parI [bSup p0 p1 p2 p3 p4, bVal p5 p6 p7 p8] scI dV kV doc pm an (.ref cdaI) ct ccI) (body := [bSup p0 p1 p2 p3 p4, bVal p5 p6 p7 p8]) (binds := [(("self" : Str), Value.ref x), (("value" : Str), v)]) (by omega) (B1.kin _ _ lf) rfl B1.nol (codeRec_of B1.kin SI.code) rfl (hbI _ B1.kin) (show ∀ y ∈ scI.names, y.2 ≠ .cell by decide) (fun y hy => by
    rcases List.mem_cons.mp hy with rfl | hy
    · rfl
    · rw [List.mem_singleton.mp hy]
      rfl) (fun h₁ hns hk₁ => ?_)
  refine ks_wpAt_execs_cons (ks_wpAt_Expr_any (ks_wpAt_MethodCall ?_ (ln _)))
  have hx1 := hk₁ _ _ hx
  have B2 := B1.keeps hk₁
  have hself : (fun y => List.lookup y ([(("self" : Str), Value.ref x), (("value" : Str), v)] : List (Str × Value)).reverse) ar.arg = some (.ref x) := by
    rw [ear]
    rfl
  refine sup_base B2 S' ns hns har hself (instN hx1) O.subC rfl rfl rfl (by rw [ear]; rfl) rfl (fun h2 hso k2 => ?_)
  have B3 := B2.keeps k2
  have hx2 := k2 _ _ hx1
  have hm := O.initC
  unfold ks_superIn at hm
  rw [hcd] at hm
  obtain ⟨_, _, _, _, _, _, odB, _, oslB, _, hfB⟩ := SB.ex
  refine ks_wpAny_getMethod_super hso (looks_opaque B3.kin O.own.tp) (l₀ := cd.mro) (fun A Q E s k q => wpAny_bind ((looks_clsIn B3.kin hcd) A _ E s k (wpAny_pure q))) rfl B3.kin hm (B3.kin _ _ hfB) rfl (ks_ne B3.kin (instN hx2) hcd) rfl ?_
  have k3 : ∀ b o, h2.get? b = some o → (h2.push (methodObj (.ref fB) (.ref x))).get? b = some o := fun b o e => Heap.get?_push_of_some _ e
  have hu : (h2.push (methodObj (.ref fB) (.ref x))).get? h2.objs.size = some (methodObj (.ref fB) (.ref x)) := Heap.get?_push_at rfl rfl
  have B4 := B3.keeps k3
  refine callWith_M0 (K := K) (g := fB) (self := .ref x) ⟨hu, B4.kin⟩ O.fnB ?_
  show wpAny _ _ (call (.ref h2.objs.size) []) _ _ _
  have k04 : ∀ b o, h₀.get? b = some o → (h2.push (methodObj (.ref fB) (.ref x))).get? b = some o := fun b o e => k3 b o (k2 b o (hk₁ b o (k0 b o e)))
  refine wpAny_call (ks_codeAny_call_bound hu (call_base B k04 SB ns O.own ln2 (by show A.depth + 1 < recursionLimit; exact room) (k3 _ _ hx2) hpB hbB (fun h4 tk t1 k4 e4 => ?_)))
  -- self.value = value
  refine ks_wpAt_execs_cons (ks_wpAt_Assign_Attr ?_)
  have kk : ∀ b o, b ≠ x → h₁.get? b = some o → h4.get? b = some o := fun b o hb e => k4 b o hb (k3 b o (k2 b o e))
  have nLx : h.objs.size ≠ x := Nat.ne_of_gt (Heap.lt_size hx)
  have hns4 : h4.Ns h.objs.size (fun y => List.lookup y ([(("self" : Str), Value.ref x), (("value" : Str), v)] : List (Str × Value)).reverse) := nsAt hns (kk _ · nLx)
  have B5 : Bs K mg mb h4 := B.keeps fun b o e => kk b o (fun z => by rw [z, x0] at e; cases e) (hk₁ b o (k0 b o e))
  have ldv : ∀ {A : Around} {E : Value → Shared → Prop} {Q : Value → Shared → Prop} {gg : Array GenState} {dd : Drawn} {tt : Nat} {oo : OsState} {pp : Pos}, Q v ⟨h4, gg, dd, tt, oo⟩ → wpAny (model prog w) A (eval (.Name "value" pp) (ksEnv qI scI h.objs.size fI (.ref cdaI) ccI)) Q E ⟨h4, gg, dd, tt, oo⟩ := fun hq =>
    wpAny_Name (wpAny_loadName_local (s := ⟨h4, _, _, _, _⟩) (env := ksEnv qI scI h.objs.size fI (.ref cdaI) ccI) (m := fun y => List.lookup y ([(("self" : Str), Value.ref x), (("value" : Str), v)] : List (Str × Value)).reverse) rfl rfl hns4 rfl hq) (by decide)
  have lds : ∀ {A : Around} {E : Value → Shared → Prop} {Q : Value → Shared → Prop} {gg : Array GenState} {dd : Drawn} {tt : Nat} {oo : OsState} {pp : Pos}, Q (.ref x) ⟨h4, gg, dd, tt, oo⟩ → wpAny (model prog w) A (eval (.Name "self" pp) (ksEnv qI scI h.objs.size fI (.ref cdaI) ccI)) Q E ⟨h4, gg, dd, tt, oo⟩ := fun hq =>
    wpAny_Name (wpAny_loadName_local (s := ⟨h4, _, _, _, _⟩) (env := ksEnv qI scI h.objs.size fI (.ref cdaI) ccI) (m := fun y => List.lookup y ([(("self" : Str), Value.ref x), (("value" : Str), v)] : List (Str × Value)).reverse) rfl rfl hns4 rfl hq) (by decide)
  refine wpAt_of_wpAny (ldv ?_)
  refine lds ?_
  refine set_plain B5.kin (instN e4) O.sa ?_
  refine HandSPX.exc_osa B5.kin e4 hcd hve hdict O.noV (fun h' tk' dx k5 dn dne hx5 hn5 => ?_)
  show _root_.PySem.wpAt _ _ _ (execs [] _) _ _ _
  refine wpAt_of_wpAny (wpAny_pure ?_)
  have sz : h.objs.size ≤ h4.objs.size := by
    obtain ⟨o, es, ep, ho, _⟩ := hns4
    exact Nat.le_of_lt (Heap.lt_size ho)
  exact q h' _ t1 dx (fun b o hb e => k5 b o hb (kk b o hb (hk₁ b o e))) (Nat.le_trans sz (show h4.objs.size ≤ dx from dn)) dne hx5 hn5
end
end ExS
set_option Elab.async false
set_option linter.all false
set_option maxRecDepth 100000
set_option maxHeartbeats 4000000
namespace ExS
open PySem PySem.Spec PyProof.Rows L2
/-- all that is to be known of one such class -/
structure BillX (P : Program) (K : PySem.W.Frag) (mg : Str → Option Value) (C : Addr) (x : Str) : Prop where
  ex : ∃ (fI cdaI ccI DB fB cdaB ccB : Addr) (qI qB : Str) (parI parB : Arguments) (fdI fdB : FuncData) (p0 p1 p2 p3 p4 p5 p6 p7 p8 r0 r1 r2 r3 r4 : Pos),
    SupFn K P fI C cdaI ccI qI parI [bSup p0 p1 p2 p3 p4, bVal p5 p6 p7 p8] scI fdI ∧ SupFn K P fB DB cdaB ccB qB parB [bSup r0 r1 r2 r3 r4] scB fdB ∧ OwnI K C fI DB fB ∧ Line p0 p1 p2 p3 ∧ Line r0 r1 r2 r3 ∧
    (parI.posonlyargs ++ parI.args).head?.map (·.arg) = some ("self" : Str) ∧ (parB.posonlyargs ++ parB.args).head?.map (·.arg) = some ("self" : Str) ∧
    (∀ (a : Addr) (v : Value) (s : Shared), K.In s.heap → BindsTo s fdI ⟨[.ref a, v], []⟩ [(("self" : Str), Value.ref a), (("value" : Str), v)]) ∧ (∀ a : Addr, bindArgs fdB ⟨[.ref a], []⟩ = pure [(("self" : Str), Value.ref a)]) ∧
    PySem.W.findIn K (.ref C) "__init__" = some (some (.ref fI)) ∧ PySem.W.typeIn K (.ref fI) = some (.type "function")
  cls : ∃ nm q N bs bm hdct sn sub ab col dd k0 k1 k2 k3 k5, K.lookup C = some (excClassObj nm q C N bs bm hdct sn sub ab col dd k0 k1 k2 k3 k5 "ValueError.__new__") ∧ PySem.HandSPX.refsVE bm = true
  ns : NoSup P
  sup : mg "super" = none
  gC : mg x = some (.ref C)
  kC : PySem.W.keepIn K (.ref C) = true
  exC : PySem.W.subIn K (.ref C) (.type "BaseException") = some true
  tyC : PySem.W.typeIn K (.ref C) = some (.type "type")
def tBill (C : Addr) (te : TE) : L2.St → Hp → XK → Prop := fun σ H Q => te σ H fun y H1 => ∃ v, [y] = [v] ∧ ∀ d, H1 d = none → Q (.ref C) (some d) (upd H1 d (.xd [("value", v)]))
def qBill (C : Addr) (Q : XK) : List V → Hp → Prop := fun vs H1 => ∃ v, vs = [v] ∧ ∀ d, H1 d = none → Q (.ref C) (some d) (upd H1 d (.xd [("value", v)]))
theorem pmk_bill {X : Cx} {x : Str} {C : Addr} {e : Expr} {te : TE} {k : Nat} {p pos : Pos} (T : BillX X.prog X.K X.mg C x) (hr : Room (k + 1) X.A) (hg : Gl X x) (ha : PE X e te)
    (hdb : (x == ("__debug__" : Str)) = false := by decide) (he : starEach [e] X.env = (false, eval e X.env) :: starEach [] X.env := by rfl) (hpl : (backTo pos (starEach [] X.env)).any (·.1) = false := by rfl) :
    PMk X (.Call (.Name x p) [e] [] pos) (tBill C te) := by
  intro pins s σ H Q I h
  obtain ⟨nm, qn, N, bs, bm, hdct, sn, sub, ab, col, dd, k0, k1, k2, k3, k5, hC, hbm⟩ := T.cls
  obtain ⟨fI, cdaI, ccI, DB, fB, cdaB, ccB, qI, qB, parI, parB, fdI, fdB, p0, p1, p2, p3, p4, p5, p6, p7, p8, r0, r1, r2, r3, r4, SI, SB, OI, ln, ln2, hpI, hpB, bI, bB, iC, tI⟩ := T.ex
  refine wpAny_Call_Name_kw (ld_glob I hg T.gC ?_ hdb)
  have h2 : tCons te tNil σ H (qBill C Q) := h
  refine PySem.W.callWith_K (h₀ := X.base) I.ok.mod.kin T.kC (thn ((pa_cons ha pa_nil he).run pos pins s σ H (qBill C Q) I h2) fun us s1 ⟨vs, H1, I1, rr, q0⟩ => ⟨I1.kIn, ?_⟩) he hpl
  show wpAny _ _ (call (.ref C) us) _ _ _
  obtain ⟨v, rfl, q1⟩ := q0
  obtain ⟨u, rfl, ru⟩ := vals1 rr
  obtain ⟨hp, g, dr, tk, os⟩ := s1
  obtain ⟨mb, gb, eb⟩ := I1.mod.blt
  have B : Bs X.K X.mg mb X.base := ⟨I1.mod.kin, I1.mod.glob, gb, T.sup, (eb "super" (by decide)).trans (by decide +kernel), I1.mod.nolimit⟩
  have hn : H1 (hp.objs.size + 1) = none := I1.hok.fresh (Nat.le_succ _)
  have kk : ∀ b o, hp.get? b = some o → ((hp.push (PySem.W.kdv_tup [u])).push (PySem.HandSPX.excO C hp.objs.size)).get? b = some o := fun b o e => Heap.get?_push_of_some _ (Heap.get?_push_of_some _ e)
  have hget : ((hp.push (PySem.W.kdv_tup [u])).push (PySem.HandSPX.excO C hp.objs.size)).get? (hp.objs.size + 1) = some (PySem.HandSPX.excO C hp.objs.size) := by heap_get
  have x0 : X.base.get? (hp.objs.size + 1) = none := by
    cases e : X.base.get? (hp.objs.size + 1) with
    | none => rfl
    | some o =>
      have := Heap.lt_size (I1.bk _ _ e)
      exact absurd this (by show ¬ hp.objs.size + 1 < hp.objs.size; omega)
  have hsz2 : ((hp.push (PySem.W.kdv_tup [u])).push (PySem.HandSPX.excO C hp.objs.size)).objs.size = hp.objs.size + 2 := by rw [Heap.size_push, Heap.size_push]
  refine wpAny_call (PySem.HandSPX.call_own F.excBase_ValueError (fun Y => PySem.HandSPX.refsVE_contains Y bm hbm) (I1.kIn _ _ hC) (PySem.W.looks_findIn I1.kIn iC) (fun self => PySem.W.bind_fn I1.kIn self tI) (by show 1 ≤ sizeLine; decide) ?_)
  have room : (X.A.under (.builtin "type.__call__" ⟨.ref C :: [u], []⟩)).depth + 1 < recursionLimit := by
    have := (hr.make C [u] []).dp
    omega
  refine call_init B (fun b o e => kk b o (I1.bk b o e)) x0 SI SB T.ns OI ln ln2 room hget hpI hpB (bI _ _) (bB _) (fun h' tk' t1 dx k5' sz dne hx5 hn5 => ?_)
  refine ⟨rfl, ?_⟩
  rw [hsz2] at sz
  obtain ⟨G, g1, g2⟩ := restrict h' fun b => decide (b ≠ hp.objs.size + 1)
  have gk : ∀ b, b ≠ hp.objs.size + 1 → G.get? b = h'.get? b := fun b hb => g1 b (decide_eq_true hb)
  have ge : G.get? (hp.objs.size + 1) = none := g2 _ (by simp)
  have keepG : ∀ b o, hp.get? b = some o → G.get? b = some o := fun b o e => by
    have hb : b ≠ hp.objs.size + 1 := Nat.ne_of_lt (Nat.lt_succ_of_lt (Heap.lt_size e))
    rw [gk b hb]
    exact k5' b o hb (kk b o e)
  have hd1 : H1 dx = none := I1.hok.fresh (Nat.le_trans (Nat.le_add_right hp.objs.size 2) sz)
  have J : Inv X pins σ (upd H1 dx (.xd [("value", v)])) ⟨G, g, dr, tk', os⟩ := I1.laid (t' := tk') (a := dx) (o := .xd [("value", v)]) (h' := G) keepG (Nat.le_trans (Nat.le_add_right hp.objs.size 2) sz)
    ⟨_, hn5.at fun o y => (gk dx dne).trans y, relO_put (fs := []) (mA := fun _ => none) ru fun g => True.intro⟩
  refine ⟨hp.objs.size + 1, _, _, ⟨G, g, dr, tk', os⟩, upd H1 dx (.xd [("value", v)]), .ref C, some dx, rfl, J, fun b o e => ?_, ge, hx5, ⟨rfl, rfl⟩, rfl, rfl, ?_, rfl, I1.bare, raises_own T.exC T.tyC, q1 dx hd1⟩
  · by_cases hb : b = hp.objs.size + 1
    · rw [hb, ge] at e
      cases e
    · exact (gk b hb).symm.trans e
  · rw [upd_ne dne.symm]
    exact hn
end ExS
set_option Elab.async false
set_option linter.all false
set_option maxRecDepth 100000
set_option maxHeartbeats 4000000
/-! except X as e: suite, where the exception is kept behind the suite, in another name. -/
namespace ExS
open PySem PySem.Spec PyProof.Rows L2
/-- an exception that was caught and is kept, of the class cls, its dict at d -/
def ExK (cls : Value) (d : Option Addr) (a : Addr) : HO := .ext fun h => ∃ (oe : Obj) (vs : Array Value), h.get? a = some oe ∧ Zc cls d oe ∧ oe.data = .fields vs
theorem exK_ok {P : Program} {w : World} {H : Hp} {h : Heap} {a : Addr} {cls : Value} {d : Option Addr} {oe : Obj} {vs : Array Value} (e : h.get? a = some oe) (z : Zc cls d oe) (q : oe.data = .fields vs) : ObjOk P w H h a (ExK cls d a) :=
  ⟨⟨oe, vs, e, z, q⟩, ⟨oe, e⟩, fun _ _ ⟨o, v, q, r⟩ k => ⟨o, v, k o q, r⟩⟩
section
variable {X : Cx} {pins : List (Addr × Obj)} {σ : L2.St} {H : Hp} {s : Shared} {a : Addr} {oe : Obj} {vs : Array Value} {cls : Value} {d : Option Addr}
theorem Inv.unsuiteP {pn' : List (Addr × Obj)} {q : Addr × Obj} (I : Inv (X.suite a (q :: (X.pn ++ pins))) pn' σ H s) (ok : X.Ok) : Inv X (q :: pins) σ H s :=
  ⟨ok, I.os, I.bare, I.base, I.loc, I.cell, I.free, I.freeC, fun p hp => I.pin p (List.mem_append_left _ (by
    rcases List.mem_append.mp hp with h | h
    · exact List.mem_cons_of_mem _ (List.mem_append_left _ h)
    · rcases List.mem_cons.mp h with h | h
      · rw [h]
        exact List.mem_cons_self ..
      · exact List.mem_cons_of_mem _ (List.mem_append_right _ h))), I.hok, I.len⟩
/-- what is pinned is known from now on -/
theorem Inv.kept (I : Inv X ((a, oe) :: pins) σ H s) (z : Zc cls d oe) (hd : oe.data = .fields vs) (n0 : X.s_0.heap.get? a = none) (hp : ∀ p ∈ X.pn ++ pins, p.1 ≠ a) : Inv X pins σ (upd H a (ExK cls d a)) s := by
  obtain ⟨ha, na, nL, nF, nc⟩ := I.pin (a, oe) (List.mem_append_right _ (List.mem_cons_self ..))
  have ne0 : ∀ b o, X.s_0.heap.get? b = some o → b ≠ a := fun b o e y => by
    rw [y, n0] at e
    cases e
  have neH : ∀ {b : Addr} {o : HO}, H b = some o → b ≠ a := fun {b o} e y => by
    rw [y, na] at e
    cases e
  have cne : ∀ x c, X.env.cells.lookup x = some c → c ≠ a := fun x c e y => by
    obtain ⟨v, o, ho, hv⟩ := I.cell x c e
    rw [y] at ho
    have := Option.some.inj (ho.symm.trans ha)
    rw [this] at hv
    exact nc _ hv
  refine ⟨I.ok, I.os, I.bare, ⟨I.base.keep, I.base.slot, fun b o e n hx => ?_, I.base.there, fun b xs e => ?_, fun b o u e => ?_, fun b ps e => ?_⟩, I.loc, I.cell, ?_, fun x c e => ?_, fun p hpp => ?_, fun b u e => ?_, I.len⟩
  · rw [upd_ne (ne0 b o e)]
    exact I.base.free b o e n hx
  · have z := I.base.tups b xs e
    rw [upd_ne (neH z)]
    exact z
  · have z := I.base.frzs b o u e
    rw [upd_ne (neH z)]
    exact z
  · obtain ⟨more, z⟩ := I.base.tbls b ps e
    exact ⟨more, by rw [upd_ne (neH z)]; exact z⟩
  · rw [upd_ne (Ne.symm nL)]
    exact I.free
  · rw [upd_ne (cne x c e)]
    exact I.freeC x c e
  · obtain ⟨e, n, ne, nf, dd⟩ := I.pin p (by
      rcases List.mem_append.mp hpp with h | h
      · exact List.mem_append_left _ h
      · exact List.mem_append_right _ (List.mem_cons_of_mem _ h))
    exact ⟨e, by rw [upd_ne (hp p hpp)]; exact n, ne, nf, dd⟩
  · by_cases hb : b = a
    · rw [hb] at e ⊢
      rw [upd_same] at e
      cases e
      exact exK_ok ha z hd
    · rw [upd_ne hb] at e
      exact (I.hok b u e).stay (fun c v _ q => q) (fun c q => by rw [upd_ne (neH q)]; exact q) fun c xs q => by rw [upd_ne (neH q)]; exact q
end
/-- what the clause 'except x as n' wishes of an exception of the body, which is kept behind the suite -/
def wKeep (K : PySem.W.Frag) (c : Value) (i : Nat) (ts : Addr → Value → Option Addr → TS) (Wout : WX) (D : Ends) : WX := fun cls d σ H =>
  ∃ b, PySem.W.exmOne K cls c = some b ∧ (b = true → ∀ a, H a = none → ts a cls d { nx := fun σ' H' => D.nx (σ'.set i none) (upd H' a (ExK cls d a)), rt := fun _ _ => False, bk := fun _ _ => False, ct := fun _ _ => False } (σ.set i (some (.ref a))) H) ∧
    (b = false → Wout cls d σ H)
section
variable {X : Cx} {x n : Str} {c : Value} {i : Nat} {body suite : List Stmt} {b₀ : Stmt} {np pos pos' : Pos} {tb : WX → TS} {ts : Addr → Value → Option Addr → TS} {Wout : WX}
theorem ps_try_keep (hs : X.stack = X.env :: X.outer) (hf : X.env.frame = some X.env.locals) (hN : X.N.Nodup) (hi : X.N[i]? = some n) (hln : X.env.kindOf n = some .local) (hc : Names X x c) (tk : Takes X Wout) (hex : X.ex = [])
    (hb : ∀ (W : WX) (pn : List (Addr × Obj)) (xe : Value → Shared → Prop), Takes (X.tr pn xe) W → PassesOwn (model X.prog X.w) X.A X.env xe → PSs (X.tr pn xe) body (tb W))
    (hsu : ∀ (a : Addr) (oe : Obj) (cls : Value) (d : Option Addr) (pn : List (Addr × Obj)), Zc cls d oe → (∃ vs, oe.data = .fields vs) → PSs (X.suite a ((a, oe) :: pn)) (b₀ :: suite) (ts a cls d)) :
    PS X (.Try body [.ExceptHandler (some (.Name x np)) (some n) (b₀ :: suite) pos'] [] [] pos) (fun D σ H => tb (wKeep X.K c i ts Wout D) D σ H) := by
  refine ⟨fun pins s σ H D I h => ?_⟩
  have ok := I.ok
  have hfr : X.A.frames = some (X.env :: X.outer) := by rw [ok.frames, hs]
  have hloc : Loc X.env.scope n := .inl hln
  refine wpAny_Try_except ?_
  refine wpAny_mono ((hb (wKeep X.K c i ts Wout D) (X.pn ++ pins) (fun e s₁ => wpAny (model X.prog X.w) X.A (noteFrame e X.env) (fun _ s₂ => wpAny (model X.prog X.w) X.A (setFlight e none) (fun _ s₃ =>
    wpAny (model X.prog X.w) X.A (handleBy e X.env [.ExceptHandler (some (.Name x np)) (some n) (b₀ :: suite) pos']) (SP X pins D) X.xe s₃) X.xe s₂) X.xe s₁) (fun u s' xx => ?_) PassesOwn.looking).run [] s σ H D (I.toTry _) h) (fun f s1 hsp => ?_) (fun e s1 he => he)
  · -- the catch
    obtain ⟨a, B, sI, pins', σ', H', cls, d, rfl, J', nb, up, sky, na, os, ag, b, hb1, hyes, hno⟩ := xx
    have J : Inv X pins σ' H' sI := J'.ofTry ok
    have sky' : Sky B (X.env :: X.outer) a (Zc cls d) X.env.locals s'.heap := by rw [← hs]; exact sky
    have Ba : B.get? a = none := by
      rcases sky' with z | z | z
      · exact z.2.1
      · exact z.2.1
      · exact z.2.1
    show wpAny (model X.prog X.w) X.A (noteFrame (.ref a) X.env) _ _ _
    refine Sky.land Zc.steady hfr hf sky' fun h3 fl3 up3 => ?_
    have J3 : Inv X pins σ' H' { s' with heap := h3 } := J.landed nb fl3.1 (up.trans up3) os ag
    obtain ⟨oe3, vs3, he3, hz3, hd3⟩ := fl3.there
    have notFr : ∀ {h : Heap} {o : Obj} {vs : Array Value}, h.FunFrames B (X.env :: X.outer) → h.get? a = some o → o.data = .fields vs → a ∉ frs (X.env :: X.outer) := fun {h o vs} ff e dd hm => by
      obtain ⟨_, o', e', hnf⟩ := ff.mem hm
      rw [e] at e'; cases e'
      exact hnf _ dd
    have nfr := notFr fl3.2.2.1 he3 hd3
    have nL : a ≠ X.env.locals := fun z => nfr (List.mem_filterMap.mpr ⟨X.env, List.mem_cons_self, by rw [hf, z]⟩)
    have nF : a ∉ X.fs := fun hm => by
      obtain ⟨e, he, q⟩ := List.mem_filterMap.mp hm
      exact nfr (List.mem_filterMap.mpr ⟨e, List.mem_cons_of_mem _ he, q⟩)
    have nI : sI.heap.get? a = none := by
      cases e : sI.heap.get? a with
      | none => rfl
      | some o =>
        have z := nb a o e (by rw [hs]; exact nfr)
        rw [Ba] at z
        cases z
    have n0 : X.s_0.heap.get? a = none := by
      cases e : X.s_0.heap.get? a with
      | none => rfl
      | some o =>
        obtain ⟨o', z⟩ := J.base.there a o e (by rw [hex]; exact List.not_mem_nil)
        rw [nI] at z
        cases z
    have hpn : ∀ p ∈ X.pn ++ pins, p.1 ≠ a := fun p hp y => by
      have z := (J.pin p hp).1
      rw [y, nI] at z
      cases z
    have S3 := J3.suite he3 hd3 na nL nF
    refine wpAny_handleBy_cons (codeAny_handlers_test ?_) (by intro q; cases q)
    have LT : PySem.W.Looks (model X.prog X.w) h3 (typeOf (.ref a)) cls := fun A Q E s k q => wpAny_typeOf_ref (k _ _ he3) (by rw [hz3.1]; exact q)
    have LM := PySem.W.exm_one (M := model X.prog X.w) (J3.kIn) LT hb1
    have test : ∀ {Q : Value → Shared → Prop} {E : Value → Shared → Prop}, Q c { s' with heap := h3 } → wpAny (model X.prog X.w) (X.A.mark (some (.ref a))) (eval (.Name x np) X.env) Q E { s' with heap := h3 } := fun {Q E} q => by
      obtain ⟨hg, hdbg, hm | ⟨hm, hv, hnn⟩⟩ := hc
      · exact ld_glob (X := X.suite a ((a, oe3) :: (X.pn ++ pins))) S3 hg hm q hdbg
      · exact ld_blt (X := X.suite a ((a, oe3) :: (X.pn ++ pins))) S3 hg hm hv q hnn hdbg
    refine test (LM.here ?_)
    cases b with
    | true =>
      refine codeAny_handlers_suite_as ?_
      refine HandSPX.lands_againZ fl3 fun h4 fl4 up4 => ?_
      have J4 : Inv X pins σ' H' { s' with heap := h4 } := J.landed nb fl4.1 ((up.trans up3).trans up4) os ag
      obtain ⟨oe4, vs4, he4, hz4, hd4⟩ := fl4.there
      have S4 := J4.suite he4 hd4 na nL nF
      refine store_ok (X := X.suite a ((a, oe4) :: (X.pn ++ pins))) (v := .ref a) S4 hN hi hloc rfl (fun s5 S5 => ?_) (.inr hln)
      refine wpAny_mono ((hsu a oe4 cls d (X.pn ++ pins) hz4 ⟨_, hd4⟩).run [] s5 _ H' _ S5 (hyes rfl a na)) (fun f s6 hsp => ?_) (fun _ _ z => False.elim z)
      cases f with
      | next =>
        obtain ⟨σ6, H6, S6, q6⟩ := hsp
        exact gone_ok (ExS.Inv.unsuiteP S6 ok) hN hi hln fun s7 J7 => ⟨_, _, ExS.Inv.kept J7 hz4 hd4 n0 hpn, q6⟩
      | brk =>
        obtain ⟨σ6, H6, S6, q6⟩ := hsp
        exact q6.elim
      | cont =>
        obtain ⟨σ6, H6, S6, q6⟩ := hsp
        exact q6.elim
      | ret u =>
        obtain ⟨v6, σ6, H6, S6, r6, q6⟩ := hsp
        exact q6.elim
    | false =>
      show wpAny _ X.A (handleBy (.ref a) X.env []) _ _ _
      refine wpAny_handleBy_nil ?_
      obtain ⟨k1, k2, k3, oe, vs, T, oT, ts', he, hz, hd, h1, hr⟩ := id fl3
      unfold PySem.passOn
      refine wpAny_bind (wpAny_field he hd h1 ?_)
      rw [if_neg (show ¬ ((Value.ref T == Value.none) = true) from by simp)]
      have fin : wpAny (model X.prog X.w) X.A (setFlight (.ref a) X.env.frame) (fun _ s4 => wpAny (model X.prog X.w) X.A (throw (.ref a) : Sem Flow) (SP X pins D) X.xe s4) X.xe { s' with heap := h3 } := by
        rw [hf]
        refine HandSPX.setFlight_upZ fl3 fun h4 hh4 up4 => wpAny_throw (tk _ _ ?_)
        exact ⟨a, B, sI, pins, σ', H', cls, d, rfl, J, nb, (up.trans up3).trans up4, .inr (.inr (by rw [hs]; exact hh4)), na, os, ag, hno rfl⟩
      first
        | exact wpAny_bind (wpAny_pure (wpAny_bind fin))
        | exact wpAny_bind fin
  · cases f with
    | next =>
      obtain ⟨σ', H', J', q⟩ := hsp
      exact wpAny_execs_nil ⟨σ', H', J'.ofTry ok, q⟩
    | brk =>
      obtain ⟨σ', H', J', q⟩ := hsp
      exact ⟨σ', H', J'.ofTry ok, q⟩
    | cont =>
      obtain ⟨σ', H', J', q⟩ := hsp
      exact ⟨σ', H', J'.ofTry ok, q⟩
    | ret u =>
      obtain ⟨v, σ', H', J', r, q⟩ := hsp
      exact ⟨v, σ', H', J'.ofTry ok, r, q⟩
end
end ExS
set_option Elab.async false
set_option linter.all false
set_option maxRecDepth 100000
set_option maxHeartbeats 4000000
/-! isinstance of such an exception, and its field. -/
namespace ExS
open PySem PySem.Spec PyProof.Rows L2
theorem exK_at {P : Program} {w : World} {H : Hp} {h : Heap} {a : Addr} {cls : Value} {d : Option Addr} (hok : HOk P w H h) (e : H a = some (ExK cls d a)) : ∃ (oe : Obj) (vs : Array Value), h.get? a = some oe ∧ Zc cls d oe ∧ oe.data = .fields vs := by
  have x : ObjOk P w H h a (ExK cls d a) := hok a _ e
  exact x.1
theorem inst_at {P : Program} {w : World} {H : Hp} {h : Heap} {a D dx : Addr} {fs : List (Str × V)} (hok : HOk P w H h) (e : H a = some (ExK (.ref D) (some dx) a)) (ed : H dx = some (.xd fs)) : ∃ (oe od : Obj) (mA : Str → Option Value), PySem.W.InstAt h a oe D (some od) ∧ (∀ f, RelO (fs.lookup f) (mA f)) ∧ ∀ n : Str, PySem.W.lookIn n od = some (mA n) := by
  obtain ⟨oe, vs, ha, hz, hd⟩ := exK_at hok e
  have hx : ObjOk P w H h dx (.xd fs) := hok dx _ ed
  obtain ⟨mA, hns, hr⟩ := hx
  obtain ⟨od, ho, hl⟩ := lookIn_ns hns
  exact ⟨oe, od, mA, ⟨ha, hz.1, by unfold PySem.W.notCls; rw [hd] <;> rfl, by rw [hz.2]; exact ho⟩, hr, hl⟩
/-- isinstance(x, c): of whatever, also of an exception that is kept -/
def rIsX (K : PySem.W.Frag) : List V → Hp → VK → Prop := fun xs H Q => rIsi K xs H Q ∨
  ∃ (a D dx : Addr) (fs : List (Str × V)) (c : V) (cv : Value) (b : Bool), xs = [.ref a, c] ∧ H a = some (ExK (.ref D) (some dx) a) ∧ H dx = some (.xd fs) ∧ ExcC K D ∧ ClsV c cv ∧ PySem.W.kitOne K (.ref D) cv = some b ∧ Q (.bl b) H
theorem call_isX {X : Cx} : CallR X (.builtin "isinstance") (rIsX X.K) := by
  intro pins s σ H xs us Q I r h
  rcases h with h | ⟨a, D, dx, fs, c, cv, b, rfl, ea, ed, C, hcv, e, q⟩
  · exact call_isi pins s σ H xs us Q I r h
  · obtain ⟨u1, u2, rfl, r1, r2⟩ := vals2 r
    cases r1
    have e2 := hcv.eq r2
    subst e2
    obtain ⟨oe, od, mA, J, _, _⟩ := inst_at I.hok ea ed
    have hcl : (PySem.W.clsIn X.K D).isSome = true := by
      obtain ⟨cd, hc, _⟩ := PySem.W.any_some C.hd
      rw [hc]
      rfl
    exact PySem.W.kia_one (PySem.W.kitx_exc hcl C.hg C.hk C.hs C.ha C.hn C.ht C.hm) I.kIn J e (fun z => nomatch z) fun tk => ⟨.bl b, H, I.kept (t' := tk) fun _ _ z => z, rfl, q⟩
/-- e.value, e such an exception -/
def tKf (K : PySem.W.Frag) (n : Str) (te : TE) : TE := fun σ H Q => te σ H fun x H1 => ∃ (a C dd : Addr) (fs : List (Str × V)) (v : V), x = .ref a ∧ H1 a = some (ExK (.ref C) (some dd) a) ∧ XfC K C ∧ PySem.W.findIn K (.ref C) n = some none ∧ H1 dd = some (.xd fs) ∧ fs.lookup n = some v ∧ Q v H1
theorem pe_kf {X : Cx} {e : Expr} {te : TE} {pos : Pos} {n : Str} (he : PE X e te) (hb : attributeBase e n X.env (eval e X.env) = eval e X.env := by rfl) : PE X (.Attribute e n pos) (tKf X.K n te) := by
  refine ⟨fun pins s σ H Q I h => ?_⟩
  refine attr_of hb (thn (he.run pins s σ H _ I h) fun u s1 hh => ?_)
  obtain ⟨x, H1, I1, rx, a, C, dd, fs, v, ex, ea, T, hno, ed, l, q⟩ := hh
  subst ex
  obtain rfl : u = Value.ref a := rx
  obtain ⟨oe, od, mA, J, hr, hl⟩ := inst_at I1.hok ea ed
  obtain ⟨u, hu, ru⟩ := RelO.some_of (v := v) (o := mA n) (by rw [← l]; exact hr n)
  exact HandSPX.exc_get I1.kIn J T.ga T.gg T.exC (PySem.W.findObj_own T.hdC hno rfl (by rw [hl, hu])) (handed_of ru) ⟨v, H1, I1.tok _, ru, q⟩
end ExS
set_option Elab.async false
set_option linter.all false
set_option maxRecDepth 100000
set_option maxHeartbeats 4000000
namespace Cb
open PySem PySem.Spec PyProof.Rows L2 ExS
/-! ### defs that may raise -/
def SaysX (P : Program) (w : World) (K : PySem.W.Frag) (mg : Str → Option Value) (base : Heap) (k : Nat) (x : Str) (ps : List Str) (sp : Sp) : Prop :=
  ∃ (f : Addr) (fd : FuncData), FnOk P w K mg base (L2.CX P w) k f fd ps sp ∧ mg x = some (.ref f) ∧ PySem.W.keepIn K (.ref f) = true ∧ Binds K fd ps []
section
variable {P : Program} {w : World} {K : PySem.W.Frag} {mg : Str → Option Value} {base : Heap} {k : Nat} {x : Str} {st : Stmt} {N ps : List Str} {sp : Sp}
theorem saysX (h : Has K mg x st ps) (S : FnScope N ps (defScope st)) (len : ∀ vs H Q E, sp vs H Q E → vs.length = ps.length)
    (body : ∀ (f : Addr) (cdv : Value) (A : Around) (outer : List Env) (s : Shared) (H : Hp) (vs : List V) (Q : VK) (E : XK), Room k (A.deeper (envOfC x (defScope st) s.heap.objs.size f cdv)) → sp vs H Q E →
      ∃ t, PSs (cxOf (L2.CX P w) P w K mg base N x (defScope st) f cdv A outer s H E) (defBody st) t ∧ t { nx := fun _ H' => Q .non H', rt := Q } (start N vs) H) : SaysX P w K mg base (k + 1) x ps sp := by
  obtain ⟨f, fd, F, hm, b⟩ := h
  exact ⟨f, fd, F.okX S len fun cdv A outer s H vs Q E => body f cdv A outer s H vs Q E, hm, F.kp, b⟩
end
section
variable {X : Cx} {W : WX} {k j : Nat} {x : Str} {ps : List Str} {sp : Sp} {p pos : Pos} {e : Expr} {es : List Expr} {t : TA}
theorem pe_sx (c : SaysX X.prog X.w X.K X.mg X.base k x ps sp) (hr : Room j X.A) (tk : Takes X W) (ha : PA X (e :: es) t) (le : k ≤ j := by decide) (gl : Gl X x := by rfl) (nd : (x == ("__debug__" : Str)) = false := by decide)
    (se : starEach (e :: es) X.env = (false, eval e X.env) :: starEach es X.env := by rfl) (pl : (backTo pos (starEach es X.env)).any (·.1) = false := by rfl) : PE X (.Call (.Name x p) (e :: es) [] pos) (tCallS sp (WE W) t) := by
  obtain ⟨f, fd, F, hm, kp, b⟩ := c
  exact pe_callS F (hr.mono le) gl hm kp b (fun σ => passAt tk σ) ha nd se pl
end
/-! ### what the classes of errors are -/
structure TErr (P : Program) (K : PySem.W.Frag) (mg : Str → Option Value) (CN CL CD CB : Addr) : Prop where
  bN : BillX P K mg CN "InvalidNumber"
  bL : BillX P K mg CL "InvalidList"
  bD : BillX P K mg CD "InvalidDeed"
  gB : mg "BillError" = some (.ref CB)
  exm : ∀ C ∈ [CN, CL, CD], PySem.W.exmOne K (.ref C) (.ref CB) = some true
  ec : ∀ C ∈ [CN, CL, CD], ExcC K C ∧ XfC K C ∧ PySem.W.findIn K (.ref C) "value" = some none
  own : ∀ C ∈ [CN, CL, CD], PySem.W.kitOne K (.ref C) (.ref C) = some true
  other : PySem.W.kitOne K (.ref CN) (.ref CL) = some false ∧ PySem.W.kitOne K (.ref CN) (.ref CD) = some false ∧ PySem.W.kitOne K (.ref CL) (.ref CN) = some false ∧ PySem.W.kitOne K (.ref CL) (.ref CD) = some false ∧ PySem.W.kitOne K (.ref CD) (.ref CN) = some false ∧ PySem.W.kitOne K (.ref CD) (.ref CL) = some false
  non : ∀ C ∈ [CN, CL, CD], PySem.W.kitOne K (.type "NoneType") (.ref C) = some false
section
variable {P : Program} {w : World} {K : PySem.W.Frag} {mg : Str → Option Value} {base : Heap} {CN CL CD CB : Addr}
def raised (E : XK) (C : Addr) (v : V) (H : Hp) : Prop := ∀ dd, H dd = none → E (.ref C) (some dd) (upd H dd (.xd [("value", v)]))
def sp_led_inX (K : PySem.W.Frag) (CN : Addr) : Sp := fun vs H Q E => ∃ v : V, vs = [v] ∧ ((∃ i : Int, v = .int i ∧ ∀ r : Int, Q (.int r) H) ∨
  ∃ (T : String) (b1 b2 : Bool), TyX K H v (.type T) ∧ kitB T "int" = some b1 ∧ kitB T "bool" = some b2 ∧ (b1 && !b2) = false ∧ raised E CN v H)
theorem c_led_inX (T : TNum K w mg) (TE : TErr P K mg CN CL CD CB) : SaysX P w K mg base 2 "led_in" ["number"] (sp_led_inX K CN) := by
  obtain ⟨tl, gl⟩ := T.g_LEAST
  refine saysX T.d_led_in sc_led_in (fun vs H Q E h => ?_) (fun f cdv A outer s H vs Q E hr h => ?_)
  · obtain ⟨_, rfl, _⟩ := h; rfl
  refine ⟨_, (pss_cons (ps_if (pt_not (pt_val (pe_s (c_is_whole T) hr (pa_cons (pv 0) pa_nil))))
        (pss_one (ps_raise rfl (takes_of rfl rfl rfl rfl) (pmk_bill TE.bN (k := 0) hr rfl (pv 0))))
        pss_nil)
      (pss_one (ps_ret (pe_op op_add (pe_op op_mod (pe_op op_sub (pv 0) (pe_glob (v := .int lo) rfl gl ⟨_, rfl⟩)) (pe_op op_powA pe_int pe_int)) (pe_glob (v := .int lo) rfl gl ⟨_, rfl⟩))))), ?_⟩
  obtain ⟨v, rfl, h⟩ := h
  rcases h with ⟨i, rfl, q⟩ | ⟨t, b1, b2, ty, k1, k2, e, q⟩
  · refine ⟨_, rfl, _, _, true, false, rfl, .base (.int i), by decide +kernel, by decide +kernel, _, rfl, iteF ?_⟩
    refine ⟨_, rfl, _, _, rfl, rfl, _, _, rfl, rfl, ⟨by decide, by decide +kernel⟩, _, _, rfl, rfl, (show (0 : Int) < 2 ^ Int.toNat 64 by decide +kernel), _, _, rfl, rfl, ?_⟩
    exact q _
  · refine ⟨_, rfl, v, t, b1, b2, rfl, ty, k1, k2, _, rfl, ?_⟩
    rw [e]
    refine iteT ?_
    exact ⟨_, rfl, _, rfl, fun dd hd => q dd hd⟩
def sp_doneX (K : PySem.W.Frag) (d CL CD : Addr) : Sp := fun vs H Q E => ∃ s a : V, vs = [s, a] ∧
  (sp_is_sign K d [s] H (fun b H' => b = .bl false ∧ raised E CD s H') E ∨
   (∃ (z : Str) (r : Value), s = .str z ∧ PySem.W.nsIn K d z = some (some r) ∧ sp_is_wanted_by K d [s, a] H (fun b H' => b = .bl false ∧ raised E CL a H') E) ∨
   sp_done [s, a] H Q E)
theorem c_doneX (T : TNum K w mg) (TE : TErr P K mg CN CL CD CB) {d : Addr} {es : Array DictEntry} {n : Nat} (g : mg "SHAPES" = some (.ref d)) (D : KDict K w d es n) : SaysX P w K mg base 5 "done" ["sign", "arguments"] (sp_doneX K d CL CD) := by
  obtain ⟨d', es', n', g', D', sN, sh⟩ := shaped T
  obtain rfl : d' = d := Value.ref.inj (Option.some.inj (g'.symm.trans g))
  refine saysX T.d_done sc_done (fun vs H Q E h => ?_) (fun f cdv A outer s H vs Q E hr h => ?_)
  · obtain ⟨_, _, rfl, _⟩ := h; rfl
  refine ⟨_, (pss_cons (ps_if (pt_not (pt_val (pe_s (c_is_sign T g D) hr (pa_cons (pv 0) pa_nil))))
        (pss_one (ps_raise rfl (takes_of rfl rfl rfl rfl) (pmk_bill TE.bD (k := 3) hr rfl (pv 0))))
        pss_nil)
      (pss_cons (ps_if (pt_not (pt_val (pe_s (c_is_wanted_by T g D) hr (pa_cons (pv 0) (pa_cons (pv 1) pa_nil)))))
        (pss_one (ps_raise rfl (takes_of rfl rfl rfl rfl) (pmk_bill TE.bL (k := 3) hr rfl (pv 1))))
        pss_nil)
      (pss_one (ps_ret (pe_s (c_reckoned T) hr (pa_cons (pv 0) (pa_cons (pv 1) pa_nil))))))), ?_⟩
  obtain ⟨s1, a1, rfl, h⟩ := h
  rcases h with h | ⟨z, r, rfl, hz, h⟩ | h
  · rcases h with ⟨z, r, e, hz, q⟩ | ⟨v, t, e, ty, k, q⟩
    · obtain rfl : s1 = .str z := by simpa using e
      refine ⟨_, rfl, .inl ⟨_, r, rfl, hz, _, rfl, ?_⟩⟩
      obtain ⟨qb, q⟩ := q
      rw [V.bl.inj qb]
      exact iteT ⟨_, rfl, _, rfl, fun dd hd => q dd hd⟩
    · obtain rfl : s1 = v := by simpa using e
      refine ⟨_, rfl, .inr ⟨_, t, rfl, ty, k, _, rfl, iteT ?_⟩⟩
      exact ⟨_, rfl, _, rfl, fun dd hd => q.2 dd hd⟩
  · refine ⟨_, rfl, .inl ⟨_, _, rfl, hz, _, rfl, iteF ?_⟩⟩
    refine ⟨_, rfl, _, rfl, ?_⟩
    obtain ⟨z', kind, gives, many, v, e, sz, h⟩ := h
    obtain ⟨e1, e2⟩ : V.str z = V.str z' ∧ a1 = v := by simpa using e
    obtain rfl := V.str.inj e1
    subst e2
    refine ⟨_, kind, gives, many, _, rfl, sz, ?_⟩
    rcases h with ⟨ty, h1, h2, q⟩ | ⟨p, xs, e, hp, ne, q⟩ | ⟨p, xs, bs, e, hp, en, small, lb, h, q⟩
    · exact .inl ⟨ty, h1, h2, _, rfl, iteT ⟨_, rfl, _, rfl, fun dd hd => q.2 dd hd⟩⟩
    · exact .inr (.inl ⟨p, xs, e, hp, ne, _, rfl, iteT ⟨_, rfl, _, rfl, fun dd hd => q.2 dd hd⟩⟩)
    · refine .inr (.inr ⟨p, xs, bs, e, hp, en, small, lb, h, fun H' s' => ⟨_, rfl, ?_⟩⟩)
      obtain ⟨qb, q2⟩ := q H' s'
      rw [V.bl.inj qb]
      exact iteT ⟨_, rfl, _, rfl, fun dd hd => q2 dd hd⟩
  · obtain ⟨z, p, e, h⟩ := h
    obtain ⟨rfl, rfl⟩ : s1 = V.str z ∧ a1 = V.ref p := by simpa using e
    rcases h with ⟨rfl, b, hp, q⟩ | ⟨u, v, r, hp, e, q⟩
    · refine ⟨_, rfl, .inl ⟨_, _, rfl, sN.choose_spec.1, _, rfl, iteF ?_⟩⟩
      refine ⟨_, rfl, _, rfl, _, _, _, _, _, rfl, sN, .inr (.inr ⟨_, _, [true], rfl, hp, rfl, by show 1 < 1000; decide, rfl, .inr ⟨rfl, ?_⟩, fun H' s1 => ⟨_, rfl, iteF ?_⟩⟩)⟩
      · intro j x b' hx hb
        match j with
        | 0 =>
          obtain rfl := Option.some.inj hx
          obtain rfl := Option.some.inj hb
          exact ⟨_, .base (.bl b), by decide +kernel⟩
      · exact ⟨_, rfl, _, rfl, _, _, rfl, .inl ⟨rfl, b, SqL.of (s1 _ _ hp), q _ s1⟩⟩
    · obtain ⟨kind, gives, sz, hk⟩ := sh e
      refine ⟨_, rfl, .inl ⟨_, _, rfl, sz.choose_spec.1, _, rfl, iteF ?_⟩⟩
      refine ⟨_, rfl, _, rfl, _, _, _, _, _, rfl, sz, .inr (.inr ⟨_, _, [true, true], rfl, hp, rfl, by show 2 < 1000; decide, rfl, ?_, fun H' s1 => ⟨_, rfl, iteF ?_⟩⟩)⟩
      · rcases hk with ⟨rfl, a, b, rfl, rfl, ha, hb⟩ | ⟨rfl, x, y, rfl, rfl⟩
        · refine .inl ⟨rfl, fun j x b' hx hb' => ?_⟩
          match j with
          | 0 =>
            obtain rfl := Option.some.inj hx
            obtain rfl := Option.some.inj hb'
            exact .inl ⟨a, rfl, (inR_of ha).symm⟩
          | 1 =>
            obtain rfl := Option.some.inj hx
            obtain rfl := Option.some.inj hb'
            exact .inl ⟨b, rfl, (inR_of hb).symm⟩
        · refine .inr ⟨rfl, fun j x b' hx hb' => ?_⟩
          match j with
          | 0 =>
            obtain rfl := Option.some.inj hx
            obtain rfl := Option.some.inj hb'
            exact ⟨_, .base (.bl _), by decide +kernel⟩
          | 1 =>
            obtain rfl := Option.some.inj hx
            obtain rfl := Option.some.inj hb'
            exact ⟨_, .base (.bl _), by decide +kernel⟩
      · exact ⟨_, rfl, _, rfl, _, _, rfl, .inr ⟨u, v, r, SqL.of (s1 _ _ hp), e, q _ s1⟩⟩
end
end Cb
set_option Elab.async false
set_option linter.all false
set_option maxRecDepth 100000
set_option maxHeartbeats 4000000
namespace Cb
open PySem PySem.Spec PyProof.Rows L2 ExS
/-! ### data of bounded size, with numbers -/
def IntOk (i : Int) : Prop := (PyData.shown (.int i)).length ≤ 40 ∧ i.natAbs.log2 < 190
inductive Ok3 : Nat → PyData → Prop
  | non {n : Nat} : Ok3 n .none
  | bl {n : Nat} (b : Bool) : Ok3 n (.bool b)
  | int {n : Nat} {i : Int} : IntOk i → Ok3 n (.int i)
  | str {n : Nat} {z : Str} : PyData.strOk z = true → z.length ≤ 40 → Ok3 n (.str z)
  | lst {n : Nat} {ds : List PyData} : ds.length ≤ 5 → (∀ d ∈ ds, Ok3 n d) → Ok3 (n + 1) (.list ds)
  | tup {n : Nat} {ds : List PyData} : ds.length ≤ 5 → (∀ d ∈ ds, Ok3 n d) → Ok3 (n + 1) (.tuple ds)
def wB : Nat → Nat
  | 0 => 200
  | n + 1 => 200 + 5 * (wB n + 1)
structure Fit3 (n : Nat) (d : PyData) : Prop where
  good : good d = true
  dep : d.depth ≤ n
  wgt : d.weight ≤ wB n
  short : d.intsShort 40 = true
  shw : d.showable = true
  nod : d.hasDict = false
theorem wB_40 : ∀ n, 200 ≤ wB n
  | 0 => Nat.le_refl _
  | n + 1 => by
    unfold wB
    omega
theorem shortAll3 : ∀ {ds : List PyData}, (∀ d ∈ ds, d.intsShort 40 = true) → PyData.intsShortAll 40 ds = true
  | [], _ => by simp [PyData.intsShortAll]
  | d :: ds, h => by
    simp only [PyData.intsShortAll, h d (List.mem_cons_self ..), shortAll3 (ds := ds) fun e he => h e (List.mem_cons_of_mem _ he), Bool.and_self]
theorem Ok3.fit {n : Nat} {d : PyData} (h : Ok3 n d) : Fit3 n d := by
  induction h with
  | non => exact ⟨rfl, by simp [PyData.depth], by simp [PyData.weight], by simp [PyData.intsShort], by simp [PyData.showable], by simp [PyData.hasDict]⟩
  | bl b => exact ⟨rfl, by simp [PyData.depth], by simp [PyData.weight], by simp [PyData.intsShort], by simp [PyData.showable], by simp [PyData.hasDict]⟩
  | @int n i h =>
    have h40 := wB_40 n
    refine ⟨rfl, by simp [PyData.depth], ?_, ?_, decide_eq_true (Nat.lt_of_lt_of_le h.2 (by decide)), by simp [PyData.hasDict]⟩
    · have h2 := h.2
      simp only [PyData.weight]
      split <;> omega
    · simp only [PyData.intsShort]
      exact decide_eq_true h.1
  | @str n z h l =>
    have h40 := wB_40 n
    refine ⟨?_, by simp [PyData.depth], ?_, by simp [PyData.intsShort], by simp [PyData.showable], by simp [PyData.hasDict]⟩
    · simp only [Cb.good, h, Bool.true_and]
      exact decide_eq_true (Nat.le_trans l (by decide))
    · simp only [PyData.weight]
      exact Nat.le_trans l (by omega)
  | @lst n ds l _ all =>
    refine ⟨?_, ?_, ?_, ?_, ?_, ?_⟩
    · simp only [Cb.good, goods_of fun d hd => (all d hd).good, Bool.and_true]
      exact decide_eq_true (by omega)
    · have := depthAll_le fun d hd => (all d hd).dep
      simp only [PyData.depth]
      omega
    · have h3 := weightAll_le fun d hd => (all d hd).wgt
      have h4 : ds.length * (wB n + 1) ≤ 5 * (wB n + 1) := Nat.mul_le_mul_right _ l
      simp only [PyData.weight, wB]
      omega
    · simp only [PyData.intsShort]
      exact shortAll3 fun d hd => (all d hd).short
    · simp only [PyData.showable]
      exact showAll_of fun d hd => (all d hd).shw
    · simp only [PyData.hasDict]
      exact nodAll_of fun d hd => (all d hd).nod
  | @tup n ds l _ all =>
    refine ⟨?_, ?_, ?_, ?_, ?_, ?_⟩
    · simp only [Cb.good, goods_of fun d hd => (all d hd).good, Bool.and_true]
      exact decide_eq_true (by omega)
    · have := depthAll_le fun d hd => (all d hd).dep
      simp only [PyData.depth]
      omega
    · have h3 := weightAll_le fun d hd => (all d hd).wgt
      have h4 : ds.length * (wB n + 1) ≤ 5 * (wB n + 1) := Nat.mul_le_mul_right _ l
      simp only [PyData.weight, wB]
      omega
    · simp only [PyData.intsShort]
      exact shortAll3 fun d hd => (all d hd).short
    · simp only [PyData.showable]
      exact showAll_of fun d hd => (all d hd).shw
    · simp only [PyData.hasDict]
      exact nodAll_of fun d hd => (all d hd).nod
theorem Fit3.len {n : Nat} {d : PyData} (f : Fit3 n d) (hn : n ≤ 4) : d.shown.length ≤ sizeLine := by
  have h := PyData.shown_le 40 (by decide) d (PyData.leavesShort_of_canLay0 40 d (good_can d f.good) f.short)
  have w4 : wB n ≤ 200000 := by
    match n, hn with
    | 0, _ => decide
    | 1, _ => decide
    | 2, _ => decide
    | 3, _ => decide
    | 4, _ => decide
  have hw := f.wgt
  have h2 : (40 + 2) * d.weight ≤ 42 * 200000 := Nat.mul_le_mul (by decide) (by omega)
  have e : sizeLine = 16777216 := by first | rfl | decide
  omega
theorem r_fit3 {K : PySem.W.Frag} {u : Nat} {H : Hp} {Q : VK} {v : V} {d : PyData} {n : Nat} (h : DT H v d) (f : Fit3 n d) (hn : n ≤ 4) (hu : u + 200 < cLine) (q : Q (.str (PyData.shown d)) H) : rRepr K u [v] H Q := by
  unfold rRepr
  exact ⟨v, d, rfl, h.dp (good_plain d f.good), f.shw, f.nod, by have := f.dep; omega, .inr (f.len hn), q⟩
/-! ### a text of a list that holds an empty dict -/
theorem shows_list {prog : Program} {w : World} {h₀ : Heap} {a : Addr} {o : Obj} {vs : List Value} {n : Nat} {xs : List PyData} {as : List Addr} (h1 : h₀.get? a = some o) (h2 : o.cls = .type "list") (h3 : o.data = .seq vs.toArray n) (h4 : ReadsAll h₀ vs xs as) (hs : PyData.showableAll xs = true)
    (hsm : PyData.hasDictAll xs = true → sysModules ∉ as) (hsz : (PyData.shown (.list xs)).length ≤ sizeLine) : ∃ T idr, ShowsBy prog w h₀ a (.list xs) T idr := by
  have hz' : (listText (PyData.shownAll xs)).length ≤ sizeLine := by simpa only [PyData.shown] using hsz
  have h4' : ReadsAll h₀ vs.toArray.toList xs as := by simpa using h4
  obtain ⟨bs, hb, hk⟩ := ReprAllK.of_readsAll (prog := prog) (w := w) h4 hs hsm (fun t ht => Nat.le_trans (listText_mem_le ht) hz')
  have hna : a ∉ bs := not_mem_of_deeper (.list h1 h2 h3 h4') (by simp only [PyData.depth]; omega) hb
  refine ⟨"list", "list.__repr__", F.slot_list_repr.toG, F.slot_list_str, F.slot_list_format, fun s hk0 => ⟨o, hk0 _ _ h1, h2⟩, fun A E s Q hg hu hk0 hQ => ?_⟩
  simp only [PyData.depth] at hu
  simp only [PyData.shown] at hQ
  cases vs with
  | nil =>
    cases h4
    simp only [PyData.shownAll, listText_nil] at hQ
    exact call_list_repr_empty ⟨o, hk0 _ _ h1, h2⟩ (hk0 _ _ h1) h3 (hQ s.heap _ _ fun _ _ e => e)
  | cons x l => exact call_list_reprK h1 h2 h3 hna (by simpa using hk.length_eq) (fun i y e => hk.item i y (by simpa using e)) hg (fun b _ => Clear.nil b) hu hk0 hQ hz'
@[irreducible] def rRepX (K : PySem.W.Frag) (u : Nat) : List V → Hp → VK → Prop := fun vs H Q => rRepr K u vs H Q ∨ (∃ a : Addr, vs = [.ref a] ∧ H a = some (.dK []) ∧ u + 200 < cLine ∧ Q (.str (PyData.shown (.dict []))) H) ∨
  ∃ (l : Addr) (x y : V) (d1 d2 : PyData), vs = [.ref l] ∧ H l = some (.lst [x, y]) ∧ DT H x d1 ∧ DT H y d2 ∧ ((d1 = .dict [] ∧ d2 = .none) ∨ ∃ z : Str, d1 = .str z ∧ d2 = .dict []) ∧ (PyData.shown (.list [d1, d2])).length ≤ sizeLine ∧ u + 200 < cLine ∧ Q (.str (PyData.shown (.list [d1, d2]))) H
theorem dict_reads {X : Cx} {pins : List (Addr × Obj)} {σ : L2.St} {H : Hp} {s : Shared} {a : Addr} (I : Inv X pins σ H s) (e : H a = some (.dK [])) : Reads s.heap (.ref a) (.dict []) (a :: [] ++ []) ∧ sysModules ≠ a := by
  obtain ⟨_, low, vs, kv, o, es, ep, ho, ex, hd, _, pr, _⟩ := dk_of I.hok e
  obtain rfl : vs = [] := by
    cases vs with
    | nil => rfl
    | cons x r =>
      have := Paired.length kv
      simp at this
  have ees : es.toList = [] := List.length_eq_zero_iff.mp pr.length
  refine ⟨.dict ho ex.1 hd (by rw [ees]; exact .nil) (by rw [ees]; exact .nil), fun z => ?_⟩
  rw [← z] at low
  simp at low
theorem call_repX {X : Cx} (hg : X.A.guards = some []) : CallR X (.builtin "repr") (rRepX X.K X.A.units) := by
  intro pins s σ H vs us Q I rel h
  unfold rRepX at h
  rcases h with h | ⟨a, rfl, e, hu, q⟩ | ⟨l, x, y, d1, d2, rfl, hl, h1, h2, c, sz, hu, q⟩
  · exact call_repr hg pins s σ H vs us Q I rel h
  · obtain ⟨u, rfl, ru⟩ := vals1 rel
    cases ru
    obtain ⟨rd, ne⟩ := dict_reads I e
    refine repr_of_reads' rd (by decide +kernel) (fun _ m => ?_) hg (by show X.A.units + (_ + 1) < cLine; simp only [PyData.depth, PyData.depthKv]; omega) (fun _ _ z => z) (fun h' w tk hk => ⟨.str (PyData.shown (.dict [])), H, I.kept hk, ⟨_, rfl⟩, q⟩) (by decide +kernel)
    exact ne (by simpa using m)
  · obtain ⟨u, rfl, ru⟩ := vals1 rel
    cases ru
    obtain ⟨_, its, n, rv, hget⟩ := (show ObjOk X.prog X.w H s.heap l (.lst [x, y]) from I.hok l _ hl)
    obtain ⟨vx, vy, rfl, rx, ry⟩ := vals2 rv
    have fin : ∀ {as : List Addr}, ReadsAll s.heap [vx, vy] [d1, d2] as → PyData.showableAll [d1, d2] = true → sysModules ∉ as → (PyData.list [d1, d2]).depth ≤ 5 → wpAny (model X.prog X.w) X.A (call (.builtin "repr") [.ref l]) (EP X pins σ Q) X.xe s := by
      intro as rd hs hsm hdp
      obtain ⟨T, idr, S⟩ := shows_list (prog := X.prog) (w := X.w) hget rfl rfl rd hs (fun _ => hsm) sz
      exact call_repr_slot (by omega) (S.typeIs s fun _ _ e => e) S.slotRepr (S.call X.A.in1 _ s _ hg (by show X.A.units + 1 + _ < cLine; omega) (fun _ _ e => e) fun h' u tk hk => ⟨_, _, rfl, ⟨.str (PyData.shown (.list [d1, d2])), H, I.kept hk, ⟨_, rfl⟩, q⟩⟩)
    rcases c with ⟨rfl, rfl⟩ | ⟨z, rfl, rfl⟩
    · cases h1 with
      | dct e =>
        cases h2
        cases rx
        cases (show vy = Value.none from ry)
        obtain ⟨rd, ne⟩ := dict_reads I e
        exact fin (.cons rd (.cons .none .nil)) (by decide +kernel) (by simpa using ne) (by decide)
    · cases h1
      cases h2 with
      | dct e =>
        obtain ⟨t, rfl⟩ := (show ∃ t, vx = Value.str z t from rx)
        cases ry
        obtain ⟨rd, ne⟩ := dict_reads I e
        exact fin (.cons (.str z t) (.cons rd .nil)) (by simp [PyData.showableAll, PyData.showable, PyData.showableKv]) (by simpa using ne) (by simp [PyData.depth, PyData.depthAll, PyData.depthKv])
end Cb
set_option Elab.async false
set_option linter.all false
set_option maxRecDepth 100000
set_option maxHeartbeats 8000000
namespace Cb
open PySem PySem.Spec PyProof.Rows L2 ExS
abbrev s_l_caught : Stmt := topS 32
abbrev NC : List Str := ["_law_which", "_law_one", "_law_other", "_law_error", "_law_kept", "e"]
theorem sc_l_caught : FnScope NC ["_law_which", "_law_one", "_law_other"] (defScope s_l_caught) := ⟨rfl, rfl, rfl, by decide +kernel, rfl, by decide +kernel, by decide +kernel⟩
abbrev s_l_only : Stmt := topS 33
theorem sc_l_only : FnScope ["_law_told", "_law_place", "_law_bad", "_law_at"] ["_law_told", "_law_place", "_law_bad"] (defScope s_l_only) := ⟨rfl, rfl, rfl, by decide +kernel, rfl, by decide +kernel, by decide +kernel⟩
structure TLaw (P : Program) (K : PySem.W.Frag) (w : World) (mg : Str → Option Value) (CN CL CD CB : Addr) : Prop where
  tg : TGen K mg
  tn : TNum K w mg
  te : TErr P K mg CN CL CD CB
  d_l_caught : Has K mg "_law_caught" s_l_caught ["_law_which", "_law_one", "_law_other"]
  d_l_only : Has K mg "_law_only" s_l_only ["_law_told", "_law_place", "_law_bad"]
  b_repr : mg "repr" = none
/-! ### what comes of a call -/
def flags (o : Option Nat) : List V := [.bl (decide (o = some 0)), .bl (decide (o = some 1)), .bl (decide (o = some 2))]
def CaseX (K : PySem.W.Frag) (d : Addr) (H : Hp) (which : Int) (one other : V) (o : Option Nat) (val : V) : Prop :=
  (which = 0 ∧ ((∃ i : Int, one = .int i ∧ o = none ∧ val = .non) ∨ ∃ (T : String) (b1 b2 : Bool), TyX K H one (.type T) ∧ kitB T "int" = some b1 ∧ kitB T "bool" = some b2 ∧ (b1 && !b2) = false ∧ o = some 0 ∧ val = one)) ∨
  (which = 1 ∧ ((sp_is_sign K d [one] H (fun b H' => b = .bl false ∧ H' = H) E0 ∧ o = some 1 ∧ val = one) ∨
    (∃ (z : Str) (r : Value), one = .str z ∧ PySem.W.nsIn K d z = some (some r) ∧ sp_is_wanted_by K d [one, other] H (fun b H' => b = .bl false ∧ Same H H') E0 ∧ o = some 2 ∧ val = other) ∨
    (sp_done [one, other] H (fun _ H' => Same H H') E0 ∧ o = none ∧ val = .non)))
theorem sign_mono {K : PySem.W.Frag} {d : Addr} {vs : List V} {H : Hp} {Q Q' : VK} {E E' : XK} (h : sp_is_sign K d vs H Q E) (m : ∀ b H', Q b H' → Q' b H') : sp_is_sign K d vs H Q' E' := by
  rcases h with ⟨z, r, e, hz, q⟩ | ⟨v, t, e, ty, k, q⟩
  · exact .inl ⟨z, r, e, hz, m _ _ q⟩
  · exact .inr ⟨v, t, e, ty, k, m _ _ q⟩
theorem wanted_mono {K : PySem.W.Frag} {d : Addr} {vs : List V} {H : Hp} {Q Q' : VK} {E E' : XK} (h : sp_is_wanted_by K d vs H Q E) (m : ∀ b H', Q b H' → Q' b H') : sp_is_wanted_by K d vs H Q' E' := by
  obtain ⟨z', kind, gives, many, v, e, sz, h⟩ := h
  refine ⟨z', kind, gives, many, v, e, sz, ?_⟩
  rcases h with ⟨ty, h1, h2, q⟩ | ⟨p, xs, e, hp, ne, q⟩ | ⟨p, xs, bs, e, hp, en, small, lb, h, q⟩
  · exact .inl ⟨ty, h1, h2, m _ _ q⟩
  · exact .inr (.inl ⟨p, xs, e, hp, ne, m _ _ q⟩)
  · exact .inr (.inr ⟨p, xs, bs, e, hp, en, small, lb, h, fun H' s' => m _ _ (q H' s')⟩)
theorem done_mono {vs : List V} {H : Hp} {Q Q' : VK} {E E' : XK} (h : sp_done vs H Q E) (m : ∀ b H', Q b H' → Q' b H') : sp_done vs H Q' E' := by
  obtain ⟨z, p, e, h⟩ := h
  refine ⟨z, p, e, ?_⟩
  rcases h with ⟨e, b, hp, q⟩ | ⟨u, v, r, hp, e, q⟩
  · exact .inl ⟨e, b, hp, fun H' s' => m _ _ (q H' s')⟩
  · exact .inr ⟨u, v, r, hp, e, fun H' s' => m _ _ (q H' s')⟩
/-- a pair that has a text -/
def PairOk (d1 d2 : PyData) : Prop := (∃ n, n ≤ 4 ∧ Ok3 n (.list [d1, d2])) ∨ (((d1 = .dict [] ∧ d2 = .none) ∨ ∃ z : Str, d1 = .str z ∧ d2 = .dict []) ∧ (PyData.shown (.list [d1, d2])).length ≤ sizeLine)
theorem r_pair {K : PySem.W.Frag} {u : Nat} {H : Hp} {Q : VK} {l : Addr} {x y : V} {d1 d2 : PyData} (hl : H l = some (.lst [x, y])) (h1 : DT H x d1) (h2 : DT H y d2) (p : PairOk d1 d2) (hu : u + 200 < cLine) (q : Q (.str (PyData.shown (.list [d1, d2]))) H) : rRepX K u [.ref l] H Q := by
  unfold rRepX
  rcases p with ⟨n, hn, ok⟩ | ⟨c, sz⟩
  · exact .inl (r_fit3 (.lst hl (.cons h1 (.cons h2 .nil))) ok.fit hn hu q)
  · exact .inr (.inr ⟨l, x, y, d1, d2, rfl, hl, h1, h2, c, sz, hu, q⟩)
section
variable {P : Program} {w : World} {K : PySem.W.Frag} {mg : Str → Option Value} {base : Heap} {CN CL CD CB : Addr}
def sp_caught (K : PySem.W.Frag) (d : Addr) : Sp := fun vs H Q _ => ∃ (which : Int) (one other val : V) (d1 d2 : PyData) (o : Option Nat), vs = [.int which, one, other] ∧ DT H one d1 ∧ DT H other d2 ∧ PairOk d1 d2 ∧ (∀ H1, Same H H1 → CaseX K d H1 which one other o val) ∧
  ∀ (t l : Addr) (H' : Hp), Same H H' → H' t = some (.tup [.ref l, val]) → H' l = some (.lst (flags o)) → Q (.ref t) H'
theorem neN {x : V} {A B : Prop} (b : B) : if (!decide (x = x)) = true then A else B := by
  rw [decide_eq_true rfl]
  exact iteF b
theorem c_l_caught (T : TLaw P K w mg CN CL CD CB) {d : Addr} {es : Array DictEntry} {n : Nat} (g : mg "SHAPES" = some (.ref d)) (D : KDict K w d es n) : SaysG P w K mg base 6 "_law_caught" ["_law_which", "_law_one", "_law_other"] (sp_caught K d) := by
  refine saysG T.d_l_caught sc_l_caught (fun vs H Q E h => ?_) (fun f cdv A outer s H vs Q E ga hr h => ?_)
  · obtain ⟨_, _, _, _, _, _, _, rfl, _⟩ := h; rfl
  refine ⟨_, (pss_cons (ps_par (i := 3) (j := 4) rfl sc_l_caught.nd rfl rfl (by decide) rfl rfl (pa_cons pe_non (pa_cons (pe_callB (call_repX ga) (by rfl) T.b_repr (by decide +kernel) (pa_cons (pe_lst (pa_cons (pv 1) (pa_cons (pv 2) pa_nil))) pa_nil)) pa_nil)) rfl)
    (pss_cons (ps_try_keep (i := 5) (Wout := fun _ _ _ _ => False) rfl rfl sc_l_caught.nd rfl rfl ⟨rfl, by decide, Or.inl T.te.gB⟩ takes0 rfl
        (fun W pn xe tk _ => pss_one (ps_if (pt_cmpR op_eq (pv 0) pe_int (nomark _))
          (pss_one (ps_expr (pe_sx (c_led_inX T.tn T.te) hr tk (pa_cons (pv 1) pa_nil))))
          (pss_one (ps_expr (pe_sx (c_doneX T.tn T.te g D) hr tk (pa_cons (pv 1) (pa_cons (pv 2) pa_nil)))))))
        (fun a oe cls d pn hz hf => pss_one (ps_set (i := 3) sc_l_caught.nd rfl (.inl rfl) (pv 5))))
    (pss_cons (ps_if (pt_cmpR op_ne (pe_callB (call_repX ga) (by rfl) T.b_repr (by decide +kernel) (pa_cons (pe_lst (pa_cons (pv 1) (pa_cons (pv 2) pa_nil))) pa_nil)) (pv 4) (nomark _))
        (pss_one (ps_ret (pe_tup (pa_cons (pe_lst pa_nil) (pa_cons pe_non pa_nil)))))
        pss_nil)
    (pss_one (ps_ret (pe_tup (pa_cons (pe_lst (pa_cons (pe_callB call_isX (by rfl) T.tn.b_isinstance (by decide +kernel) (pa_cons (pv 3) (pa_cons (pe_glob (v := .ref CN) rfl T.te.bN.gC rfl) pa_nil))) (pa_cons (pe_callB call_isX (by rfl) T.tn.b_isinstance (by decide +kernel) (pa_cons (pv 3) (pa_cons (pe_glob (v := .ref CD) rfl T.te.bD.gC rfl) pa_nil))) (pa_cons (pe_callB call_isX (by rfl) T.tn.b_isinstance (by decide +kernel) (pa_cons (pv 3) (pa_cons (pe_glob (v := .ref CL) rfl T.te.bL.gC rfl) pa_nil))) pa_nil))))
      (pa_cons (pe_ifExp (pt_cmpR op_isN (pv 3) pe_non (nomark _)) pe_non (pe_kf (n := "value") (pv 3))) pa_nil)))))))), ?_⟩
  obtain ⟨which, one, other, val, d1, d2, o, rfl, h1, h2, po, cs, q⟩ := h
  have hu := hr.un
  have hu' : (A.deeper (envOfC "_law_caught" (defScope s_l_caught) s.heap.objs.size f cdv)).units + 200 < cLine := by omega
  refine ⟨_, rfl, _, rfl, (show 2 ≤ sizeLine by decide), fun l0 n0 => r_pair upd_same (h1.same (same_new n0) _) (h2.same (same_new n0) _) po hu' ⟨_, _, rfl, ?_⟩⟩
  have s1' : Same H (upd H l0 (.lst [one, other])) := same_new n0
  have cs1 := cs _ s1'
  generalize upd H l0 (.lst [one, other]) = H1' at s1' cs1 ⊢
  rcases cs1 with ⟨rfl, c⟩ | ⟨rfl, c⟩
  · refine ⟨_, rfl, rfl, _, rfl, iteT ?_⟩
    refine ⟨_, rfl, one, rfl, ?_⟩
    rcases c with ⟨i, rfl, rfl, rfl⟩ | ⟨ty, b1, b2, ht, k1, k2, e, rfl, ev⟩
    · refine .inl ⟨i, rfl, fun r => ?_⟩
      have s3 := s1'
      refine ⟨_, rfl, _, rfl, (show 2 ≤ sizeLine by decide), fun l2 n2 => r_pair upd_same (h1.same (s3.trans (same_new n2)) _) (h2.same (s3.trans (same_new n2)) _) po hu' ⟨_, rfl, rfl, _, rfl, neN ?_⟩⟩
      refine ⟨_, rfl, .inl ⟨.non, .ref CN, .type "NoneType", .ref CN, false, rfl, .own CN, .base .non, T.te.non CN (by simp), ?_⟩⟩
      refine ⟨_, rfl, .inl ⟨.non, .ref CD, .type "NoneType", .ref CD, false, rfl, .own CD, .base .non, T.te.non CD (by simp), ?_⟩⟩
      refine ⟨_, rfl, .inl ⟨.non, .ref CL, .type "NoneType", .ref CL, false, rfl, .own CL, .base .non, T.te.non CL (by simp), ?_⟩⟩
      refine ⟨(show 3 ≤ sizeLine by decide), fun l3 n3 => ?_⟩
      refine ⟨_, rfl, rfl, _, rfl, iteT ?_⟩
      refine ⟨(show 2 ≤ sizeLine by decide), fun t nt => ?_⟩
      exact q t l3 _ (((s3.trans (same_new n2)).trans (same_new n3)).trans (same_new nt)) upd_same (same_new nt _ _ upd_same)
    · refine .inr ⟨ty, b1, b2, ht, k1, k2, e, fun dd hdd => ?_⟩
      subst ev
      have ec := T.te.ec CN (by simp)
      refine ⟨true, T.te.exm CN (by simp), fun _ a na => ?_, fun z => nomatch z⟩
      refine ⟨_, rfl, ?_⟩
      have nda : dd ≠ a := ne_of_none upd_same na
      have s2 : Same H (upd H1' dd (.xd [("value", val)])) := s1'.trans (same_new hdd)
      have s3 : Same H (upd (upd H1' dd (.xd [("value", val)])) a (ExK (.ref CN) (some dd) a)) := s2.trans (same_new na)
      have ea : (upd (upd H1' dd (.xd [("value", val)])) a (ExK (.ref CN) (some dd) a)) a = some (ExK (.ref CN) (some dd) a) := upd_same
      have ed : (upd (upd H1' dd (.xd [("value", val)])) a (ExK (.ref CN) (some dd) a)) dd = some (.xd [("value", val)]) := (upd_ne nda).trans upd_same
      refine ⟨_, rfl, _, rfl, (show 2 ≤ sizeLine by decide), fun l2 n2 => r_pair upd_same (h1.same (s3.trans (same_new n2)) _) (h2.same (s3.trans (same_new n2)) _) po hu' ⟨_, rfl, rfl, _, rfl, neN ?_⟩⟩
      refine ⟨_, rfl, .inr ⟨a, CN, dd, _, .ref CN, .ref CN, true, rfl, same_new n2 _ _ ea, same_new n2 _ _ ed, ec.1, .own CN, T.te.own CN (by simp), ?_⟩⟩
      refine ⟨_, rfl, .inr ⟨a, CN, dd, _, .ref CD, .ref CD, false, rfl, same_new n2 _ _ ea, same_new n2 _ _ ed, ec.1, .own CD, T.te.other.2.1, ?_⟩⟩
      refine ⟨_, rfl, .inr ⟨a, CN, dd, _, .ref CL, .ref CL, false, rfl, same_new n2 _ _ ea, same_new n2 _ _ ed, ec.1, .own CL, T.te.other.1, ?_⟩⟩
      refine ⟨(show 3 ≤ sizeLine by decide), fun l3 n3 => ?_⟩
      refine ⟨_, rfl, rfl, _, rfl, iteF ?_⟩
      refine ⟨_, rfl, a, CN, dd, _, val, rfl, same_new n3 _ _ (same_new n2 _ _ ea), ec.2.1, ec.2.2, same_new n3 _ _ (same_new n2 _ _ ed), by simp [List.lookup], ?_⟩
      refine ⟨(show 2 ≤ sizeLine by decide), fun t nt => ?_⟩
      exact q t l3 _ (((s3.trans (same_new n2)).trans (same_new n3)).trans (same_new nt)) upd_same (same_new nt _ _ upd_same)
  · refine ⟨_, rfl, rfl, _, rfl, iteF ?_⟩
    refine ⟨_, rfl, _, rfl, one, other, rfl, ?_⟩
    rcases c with ⟨c, rfl, ev⟩ | ⟨z, r, ez, hz, c, rfl, ev⟩ | ⟨c, rfl, rfl⟩
    · refine .inl (sign_mono c ?_)
      rintro b H' ⟨eb, eH⟩
      rw [eH]
      refine ⟨eb, fun dd hdd => ?_⟩
      subst ev
      have ec := T.te.ec CD (by simp)
      refine ⟨true, T.te.exm CD (by simp), fun _ a na => ?_, fun z => nomatch z⟩
      refine ⟨_, rfl, ?_⟩
      have nda : dd ≠ a := ne_of_none upd_same na
      have s2 : Same H (upd H1' dd (.xd [("value", val)])) := s1'.trans (same_new hdd)
      have s3 : Same H (upd (upd H1' dd (.xd [("value", val)])) a (ExK (.ref CD) (some dd) a)) := s2.trans (same_new na)
      have ea : (upd (upd H1' dd (.xd [("value", val)])) a (ExK (.ref CD) (some dd) a)) a = some (ExK (.ref CD) (some dd) a) := upd_same
      have ed : (upd (upd H1' dd (.xd [("value", val)])) a (ExK (.ref CD) (some dd) a)) dd = some (.xd [("value", val)]) := (upd_ne nda).trans upd_same
      refine ⟨_, rfl, _, rfl, (show 2 ≤ sizeLine by decide), fun l2 n2 => r_pair upd_same (h1.same (s3.trans (same_new n2)) _) (h2.same (s3.trans (same_new n2)) _) po hu' ⟨_, rfl, rfl, _, rfl, neN ?_⟩⟩
      refine ⟨_, rfl, .inr ⟨a, CD, dd, _, .ref CN, .ref CN, false, rfl, same_new n2 _ _ ea, same_new n2 _ _ ed, ec.1, .own CN, T.te.other.2.2.2.2.1, ?_⟩⟩
      refine ⟨_, rfl, .inr ⟨a, CD, dd, _, .ref CD, .ref CD, true, rfl, same_new n2 _ _ ea, same_new n2 _ _ ed, ec.1, .own CD, T.te.own CD (by simp), ?_⟩⟩
      refine ⟨_, rfl, .inr ⟨a, CD, dd, _, .ref CL, .ref CL, false, rfl, same_new n2 _ _ ea, same_new n2 _ _ ed, ec.1, .own CL, T.te.other.2.2.2.2.2, ?_⟩⟩
      refine ⟨(show 3 ≤ sizeLine by decide), fun l3 n3 => ?_⟩
      refine ⟨_, rfl, rfl, _, rfl, iteF ?_⟩
      refine ⟨_, rfl, a, CD, dd, _, val, rfl, same_new n3 _ _ (same_new n2 _ _ ea), ec.2.1, ec.2.2, same_new n3 _ _ (same_new n2 _ _ ed), by simp [List.lookup], ?_⟩
      refine ⟨(show 2 ≤ sizeLine by decide), fun t nt => ?_⟩
      exact q t l3 _ (((s3.trans (same_new n2)).trans (same_new n3)).trans (same_new nt)) upd_same (same_new nt _ _ upd_same)
    · refine .inr (.inl ⟨z, r, ez, hz, wanted_mono c ?_⟩)
      rintro b H1x ⟨eb, s1x⟩
      refine ⟨eb, fun dd hdd => ?_⟩
      subst ev
      have ec := T.te.ec CL (by simp)
      refine ⟨true, T.te.exm CL (by simp), fun _ a na => ?_, fun z => nomatch z⟩
      refine ⟨_, rfl, ?_⟩
      have nda : dd ≠ a := ne_of_none upd_same na
      have s2 : Same H (upd H1x dd (.xd [("value", val)])) := (s1'.trans s1x).trans (same_new hdd)
      have s3 : Same H (upd (upd H1x dd (.xd [("value", val)])) a (ExK (.ref CL) (some dd) a)) := s2.trans (same_new na)
      have ea : (upd (upd H1x dd (.xd [("value", val)])) a (ExK (.ref CL) (some dd) a)) a = some (ExK (.ref CL) (some dd) a) := upd_same
      have ed : (upd (upd H1x dd (.xd [("value", val)])) a (ExK (.ref CL) (some dd) a)) dd = some (.xd [("value", val)]) := (upd_ne nda).trans upd_same
      refine ⟨_, rfl, _, rfl, (show 2 ≤ sizeLine by decide), fun l2 n2 => r_pair upd_same (h1.same (s3.trans (same_new n2)) _) (h2.same (s3.trans (same_new n2)) _) po hu' ⟨_, rfl, rfl, _, rfl, neN ?_⟩⟩
      refine ⟨_, rfl, .inr ⟨a, CL, dd, _, .ref CN, .ref CN, false, rfl, same_new n2 _ _ ea, same_new n2 _ _ ed, ec.1, .own CN, T.te.other.2.2.1, ?_⟩⟩
      refine ⟨_, rfl, .inr ⟨a, CL, dd, _, .ref CD, .ref CD, false, rfl, same_new n2 _ _ ea, same_new n2 _ _ ed, ec.1, .own CD, T.te.other.2.2.2.1, ?_⟩⟩
      refine ⟨_, rfl, .inr ⟨a, CL, dd, _, .ref CL, .ref CL, true, rfl, same_new n2 _ _ ea, same_new n2 _ _ ed, ec.1, .own CL, T.te.own CL (by simp), ?_⟩⟩
      refine ⟨(show 3 ≤ sizeLine by decide), fun l3 n3 => ?_⟩
      refine ⟨_, rfl, rfl, _, rfl, iteF ?_⟩
      refine ⟨_, rfl, a, CL, dd, _, val, rfl, same_new n3 _ _ (same_new n2 _ _ ea), ec.2.1, ec.2.2, same_new n3 _ _ (same_new n2 _ _ ed), by simp [List.lookup], ?_⟩
      refine ⟨(show 2 ≤ sizeLine by decide), fun t nt => ?_⟩
      exact q t l3 _ (((s3.trans (same_new n2)).trans (same_new n3)).trans (same_new nt)) upd_same (same_new nt _ _ upd_same)
    · refine .inr (.inr (done_mono c ?_))
      intro b H1x s1x
      have s3 := s1'.trans s1x
      refine ⟨_, rfl, _, rfl, (show 2 ≤ sizeLine by decide), fun l2 n2 => r_pair upd_same (h1.same (s3.trans (same_new n2)) _) (h2.same (s3.trans (same_new n2)) _) po hu' ⟨_, rfl, rfl, _, rfl, neN ?_⟩⟩
      refine ⟨_, rfl, .inl ⟨.non, .ref CN, .type "NoneType", .ref CN, false, rfl, .own CN, .base .non, T.te.non CN (by simp), ?_⟩⟩
      refine ⟨_, rfl, .inl ⟨.non, .ref CD, .type "NoneType", .ref CD, false, rfl, .own CD, .base .non, T.te.non CD (by simp), ?_⟩⟩
      refine ⟨_, rfl, .inl ⟨.non, .ref CL, .type "NoneType", .ref CL, false, rfl, .own CL, .base .non, T.te.non CL (by simp), ?_⟩⟩
      refine ⟨(show 3 ≤ sizeLine by decide), fun l3 n3 => ?_⟩
      refine ⟨_, rfl, rfl, _, rfl, iteT ?_⟩
      refine ⟨(show 2 ≤ sizeLine by decide), fun t nt => ?_⟩
      exact q t l3 _ (((s3.trans (same_new n2)).trans (same_new n3)).trans (same_new nt)) upd_same (same_new nt _ _ upd_same)
end
end Cb
set_option Elab.async false
set_option linter.all false
set_option maxRecDepth 100000
set_option maxHeartbeats 8000000
namespace Cb
open PySem PySem.Spec PyProof.Rows L2 ExS
/-! ### data judged -/
def TextOk (d : PyData) : Prop := (∃ n, n ≤ 4 ∧ Ok3 n d) ∨ d = .dict []
theorem r_text {K : PySem.W.Frag} {u : Nat} {H : Hp} {Q : VK} {v : V} {d : PyData} (h : DT H v d) (p : TextOk d) (hu : u + 200 < cLine) (q : Q (.str (PyData.shown d)) H) : rRepX K u [v] H Q := by
  unfold rRepX
  rcases p with ⟨n, hn, ok⟩ | rfl
  · exact .inl (r_fit3 h ok.fit hn hu q)
  · cases h with
    | dct e => exact .inr (.inl ⟨_, rfl, e, hu, q⟩)
theorem pair_ok {d1 d2 : PyData} (h1 : Ok3 3 d1) (h2 : Ok3 3 d2) : PairOk d1 d2 := .inl ⟨4, Nat.le_refl _, .lst (by simp) fun d hd => by
  rcases List.mem_cons.mp hd with rfl | hd
  · exact h1
  · rw [List.mem_singleton.mp hd]
    exact h2⟩
mutual
def okb : Nat → PyData → Bool
  | _, .none => true
  | _, .bool _ => true
  | _, .int _ => true
  | _, .str z => PyData.strOk z && decide (z.length ≤ 40)
  | n + 1, .list ds => decide (ds.length ≤ 5) && okbs n ds
  | n + 1, .tuple ds => decide (ds.length ≤ 5) && okbs n ds
  | _, _ => false
def okbs : Nat → List PyData → Bool
  | _, [] => true
  | n, d :: ds => okb n d && okbs n ds
end
mutual
def intsOf : PyData → List Int
  | .int i => [i]
  | .list ds => intsOfs ds
  | .tuple ds => intsOfs ds
  | _ => []
def intsOfs : List PyData → List Int
  | [] => []
  | d :: ds => intsOf d ++ intsOfs ds
end
mutual
theorem ok3_of : ∀ (n : Nat) (d : PyData), okb n d = true → (∀ i ∈ intsOf d, IntOk i) → Ok3 n d
  | _, .none, _, _ => .non
  | _, .bool b, _, _ => .bl b
  | _, .int i, _, h => .int (h i (by simp [intsOf]))
  | _, .str z, h, _ => by
    have h2 : PyData.strOk z = true ∧ z.length ≤ 40 := by simpa [okb] using h
    exact .str h2.1 h2.2
  | 0, .list _, h, _ => by simp [okb] at h
  | 0, .tuple _, h, _ => by simp [okb] at h
  | n + 1, .list ds, h, hi => by
    have h2 : ds.length ≤ 5 ∧ okbs n ds = true := by simpa [okb] using h
    exact .lst h2.1 (ok3s_of n ds h2.2 (by simpa [intsOf] using hi))
  | n + 1, .tuple ds, h, hi => by
    have h2 : ds.length ≤ 5 ∧ okbs n ds = true := by simpa [okb] using h
    exact .tup h2.1 (ok3s_of n ds h2.2 (by simpa [intsOf] using hi))
  | 0, .dict _, h, _ => by simp [okb] at h
  | _ + 1, .dict _, h, _ => by simp [okb] at h
theorem ok3s_of : ∀ (n : Nat) (ds : List PyData), okbs n ds = true → (∀ i ∈ intsOfs ds, IntOk i) → ∀ d ∈ ds, Ok3 n d
  | _, [], _, _, d, hd => by cases hd
  | n, e :: ds, h, hi, d, hd => by
    have h2 : okb n e = true ∧ okbs n ds = true := by simpa [okbs] using h
    have he := ok3_of n e h2.1 fun i m => hi i (by simp [intsOfs, m])
    have hs := ok3s_of n ds h2.2 (fun i m => hi i (by simp [intsOfs, m]))
    exact (List.mem_cons.mp hd).elim (fun q => q ▸ he) fun q => hs d q
end
/-! ### which case -/
def isW : PyData → Bool
  | .int _ => true
  | _ => false
def isF : PyData → Bool
  | .bool _ => true
  | _ => false
theorem kit_i : ∀ d : PyData, isW d = false → ∃ b1 b2 : Bool, kitB (tyN d) "int" = some b1 ∧ kitB (tyN d) "bool" = some b2 ∧ (b1 && !b2) = false
  | .none, _ => ⟨false, false, by show kitB "NoneType" "int" = _; decide +kernel, by show kitB "NoneType" "bool" = _; decide +kernel, rfl⟩
  | .bool _, _ => ⟨true, true, by show kitB "bool" "int" = _; decide +kernel, by show kitB "bool" "bool" = _; decide +kernel, rfl⟩
  | .int _, h => by cases h
  | .str _, _ => ⟨false, false, by show kitB "str" "int" = _; decide +kernel, by show kitB "str" "bool" = _; decide +kernel, rfl⟩
  | .list _, _ => ⟨false, false, by show kitB "list" "int" = _; decide +kernel, by show kitB "list" "bool" = _; decide +kernel, rfl⟩
  | .tuple _, _ => ⟨false, false, by show kitB "tuple" "int" = _; decide +kernel, by show kitB "tuple" "bool" = _; decide +kernel, rfl⟩
  | .dict _, _ => ⟨false, false, by show kitB "dict" "int" = _; decide +kernel, by show kitB "dict" "bool" = _; decide +kernel, rfl⟩
theorem kit_f : ∀ d : PyData, kitB (tyN d) "bool" = some (isF d)
  | .none => by show kitB "NoneType" "bool" = some false; decide +kernel
  | .bool _ => by show kitB "bool" "bool" = some true; decide +kernel
  | .int _ => by show kitB "int" "bool" = some false; decide +kernel
  | .str _ => by show kitB "str" "bool" = some false; decide +kernel
  | .list _ => by show kitB "list" "bool" = some false; decide +kernel
  | .tuple _ => by show kitB "tuple" "bool" = some false; decide +kernel
  | .dict _ => by show kitB "dict" "bool" = some false; decide +kernel
def numD : PyData → Bool
  | .int i => inR i
  | _ => false
section
variable {K : PySem.W.Frag} {dS : Addr} {H : Hp} {x : V} {d : PyData}
theorem numJ_of (h : DT H x d) : NumJ K H x (numD d) := by
  by_cases w : isW d = true
  · cases d with
    | int i => cases h; exact .inl ⟨i, rfl, rfl⟩
    | none => cases w
    | bool _ => cases w
    | str _ => cases w
    | list _ => cases w
    | tuple _ => cases w
    | dict _ => cases w
  · obtain ⟨b1, b2, k1, k2, e⟩ := kit_i d (by simpa using w)
    refine .inr ⟨tyN d, b1, b2, h.ty, k1, k2, e, ?_⟩
    cases d with
    | int i => exact absurd rfl w
    | none => rfl
    | bool _ => rfl
    | str _ => rfl
    | list _ => rfl
    | tuple _ => rfl
    | dict _ => rfl
theorem flagJ_of (h : DT H x d) : FlagJ K H x (isF d) := ⟨tyN d, h.ty, kit_f d⟩
def wantedD (kind : Str) (many : Nat) : PyData → Bool
  | .list ds => decide (ds.length = many) && ds.all (if kind = "num" then numD else isF)
  | _ => false
theorem case_num {other : V} (h : DT H x d) (w : isW d = false) : ∀ H1, Same H H1 → CaseX K dS H1 0 x other (some 0) x := fun H1 s1 => by
  obtain ⟨b1, b2, k1, k2, e⟩ := kit_i d w
  exact .inl ⟨rfl, .inr ⟨tyN d, b1, b2, (h.same s1 d).ty, k1, k2, e, rfl, rfl⟩⟩
def noSign (K : PySem.W.Frag) (dS : Addr) : PyData → Prop
  | .str z => PySem.W.nsIn K dS z = some none
  | _ => True
theorem case_deed {other : V} (h : DT H x d) (w : noSign K dS d) : ∀ H1, Same H H1 → CaseX K dS H1 1 x other (some 1) x := fun H1 s1 => by
  refine .inr ⟨rfl, .inl ⟨?_, rfl, rfl⟩⟩
  by_cases s : isS d = true
  · cases d with
    | str z =>
      cases h
      exact .inl ⟨z, none, rfl, w, rfl, rfl⟩
    | none => cases s
    | bool _ => cases s
    | int _ => cases s
    | list _ => cases s
    | tuple _ => cases s
    | dict _ => cases s
  · have k := kit_s d
    rw [show isS d = false by simpa using s] at k
    exact .inr ⟨x, tyN d, rfl, (h.same s1 d).ty, k, rfl, rfl⟩
theorem case_list {z kind gives : Str} {many : Nat} (sh : Shape K dS z kind many gives) (hk : kind = "num" ∨ kind = "flag") (ml : many ≤ 5) (h : DT H x d) (w : wantedD kind many d = false) : ∀ H1, Same H H1 → CaseX K dS H1 1 (.str z) x (some 2) x := fun H1 s1 => by
  obtain ⟨a, e, t⟩ := id sh
  refine .inr ⟨rfl, .inr (.inl ⟨z, _, rfl, e, ⟨z, kind, gives, many, x, rfl, sh, ?_⟩, rfl, rfl⟩)⟩
  have h1 := h.same s1 d
  by_cases s : isL d = true
  · cases d with
    | list ds =>
      cases h1 with
      | @lst p xs _ ep r =>
        by_cases l : ds.length = many
        · have w2 : (ds.all (if kind = "num" then numD else isF)) = false := by
            simpa [wantedD, l] using w
          refine .inr (.inr ⟨p, xs, ds.map (if kind = "num" then numD else isF), rfl, ep, by rw [r.length, l], ?_, by rw [List.length_map, r.length], ?_, fun H' s' => ⟨?_, s'⟩⟩)
          · rw [r.length, l]
            omega
          · rcases hk with rfl | rfl
            · refine .inl ⟨rfl, fun j y b hy hb => ?_⟩
              rw [if_pos rfl, List.getElem?_map] at hb
              cases hd : ds[j]? with
              | none => rw [hd] at hb; cases hb
              | some e =>
                rw [hd] at hb
                obtain rfl : numD e = b := Option.some.inj hb
                exact numJ_of (r.get hy hd)
            · refine .inr ⟨rfl, fun j y b hy hb => ?_⟩
              rw [if_neg (by decide), List.getElem?_map] at hb
              cases hd : ds[j]? with
              | none => rw [hd] at hb; cases hb
              | some e =>
                rw [hd] at hb
                obtain rfl : isF e = b := Option.some.inj hb
                exact flagJ_of (r.get hy hd)
          · rw [List.all_map]
            exact congrArg V.bl w2
        · exact .inr (.inl ⟨p, xs, rfl, ep, by rw [r.length]; omega, rfl, Same.refl _⟩)
    | none => cases s
    | bool _ => cases s
    | int _ => cases s
    | str _ => cases s
    | tuple _ => cases s
    | dict _ => cases s
  · have k := kit_l d
    rw [show isL d = false by simpa using s] at k
    exact .inl ⟨tyN d, h1.ty, k, rfl, Same.refl _⟩
end
section
variable {P : Program} {w : World} {K : PySem.W.Frag} {mg : Str → Option Value} {base : Heap} {CN CL CD CB : Addr}
def sp_only : Sp := fun vs H Q _ => ∃ (t l : Addr) (k : Nat) (bad : V) (d : PyData), vs = [.ref t, .int (k : Int), bad] ∧ k < 3 ∧ H t = some (.tup [.ref l, bad]) ∧ H l = some (.lst (flags (some k))) ∧ DT H bad d ∧ TextOk d ∧ ∀ H', Same H H' → Q (.bl true) H'
def flagD (k : Nat) : PyData := .list [.bool (decide (0 = k)), .bool (decide (1 = k)), .bool (decide (2 = k))]
theorem flagD_eq : ∀ k, k < 3 → PyData.eqv (flagD k) (flagD k) = true ∧ SeqAt.shaped (flagD k) = true := by decide +kernel
theorem c_l_only (T : TLaw P K w mg CN CL CD CB) : SaysG P w K mg base 1 "_law_only" ["_law_told", "_law_place", "_law_bad"] sp_only := by
  refine saysG T.d_l_only sc_l_only (fun vs H Q E h => ?_) (fun f cdv A outer s H vs Q E ga hr h => ?_)
  · obtain ⟨_, _, _, _, _, rfl, _⟩ := h; rfl
  refine ⟨_, (pss_one (ps_ret (pe_and (pe_cmpR (op_eqD hr.units) (pe_ix ix_tup (pv 0) pe_int (fun _ _ => rfl)) (pe_lc (own := [("_law_at", 3)]) (g := gName 3) (tt := tYes) rfl sc_l_only.nd (pi_range1 (by rfl) T.tg.b_range (pa_cons pe_int pa_nil)) (blkOk_by (N := ["_law_told", "_law_place", "_law_bad", "_law_at"]) (sc := defScope s_l_only) (own := [("_law_at", 3)]) (by decide +kernel)) (fun _ _ _ _ _ => pg_name (i := 3) sc_l_only.nd rfl (Or.inl rfl)) (fun _ _ _ _ _ => pts_nil) (fun _ _ _ _ _ => (pe_cmpR op_eq (pv 3) (pv 1) (nomark _)))) (nomark _))
    (pe_one (pe_cmpR op_eq (pe_callB (call_repX ga) (by rfl) T.b_repr (by decide +kernel) (pa_cons (pe_ix ix_tup (pv 0) pe_int (fun _ _ => rfl)) pa_nil)) (pe_callB (call_repX ga) (by rfl) T.b_repr (by decide +kernel) (pa_cons (pv 2) pa_nil)) (nomark _)))))), ?_⟩
  obtain ⟨t, l, k, bad, d, rfl, k3, ht, hl, hd, tx, q⟩ := h
  have hu := hr.un
  have hu' : (A.deeper (envOfC "_law_only" (defScope s_l_only) s.heap.objs.size f cdv)).units + 200 < cLine := by omega
  refine ⟨_, rfl, t, _, 0, .ref l, rfl, rfl, SqT.of ht, rfl, ?_⟩
  refine ⟨3, rfl, by decide, by decide, fun D hD => lc_mapW walk_range (ys := flags (some k)) (fun _ _ => trivial) (fun j H x H' y => y.1) hD rfl (by decide) ?_ ?_⟩
  · rintro j x y H' Q' s1 ⟨_, ex⟩ hy q'
    subst ex
    have ey : y = .bl (decide (V.int (0 + (j : Int)) = V.int (k : Int))) := by
      have e2 : decide (V.int (0 + (j : Int)) = V.int (k : Int)) = decide (k = j) := by
        by_cases e : k = j
        · rw [decide_eq_true e, decide_eq_true (by rw [e, Int.zero_add])]
        · rw [decide_eq_false e, decide_eq_false]
          intro z
          have := V.int.inj z
          omega
      rw [e2]
      match j, hy with
      | 0, hy => simpa [flags] using (Option.some.inj hy).symm
      | 1, hy => simpa [flags] using (Option.some.inj hy).symm
      | 2, hy => simpa [flags] using (Option.some.inj hy).symm
    rw [ey] at q'
    exact ⟨_, rfl, _, rfl, rfl, q' _ (Same.refl _)⟩
  · intro H' s1 hd'
    have ef : flags (some k) = [.bl (decide (0 = k)), .bl (decide (1 = k)), .bl (decide (2 = k))] := by
      match k, k3 with
      | 0, _ => rfl
      | 1, _ => rfl
      | 2, _ => rfl
    have dp : ∀ {H : Hp}, DpAll K H (flags (some k)) [.bool (decide (0 = k)), .bool (decide (1 = k)), .bool (decide (2 = k))] := by
      intro H
      rw [ef]
      exact .cons (.bl _) (.cons (.bl _) (.cons (.bl _) .nil))
    obtain ⟨e1, e2⟩ := flagD_eq k k3
    refine ⟨flagD k, flagD k, .lst (SqL.of (s1 _ _ hl)) dp, .lst (SqL.of hd') dp, e2, e2, ?_⟩
    refine ⟨_, rfl, ?_⟩
    rw [e1]
    refine iteT ?_
    refine ⟨_, rfl, t, _, 1, bad, rfl, rfl, SqT.of (s1 _ _ ht), rfl, r_text (hd.same s1 _) tx hu' ?_⟩
    refine ⟨_, rfl, r_text (hd.same s1 _) tx hu' ?_⟩
    refine ⟨rfl, ?_⟩
    rw [decide_eq_true rfl]
    exact q _ s1
end
end Cb
set_option Elab.async false
set_option linter.all false
set_option maxRecDepth 100000
set_option maxHeartbeats 8000000
namespace Cb
open PySem PySem.Spec PyProof.Rows L2 ExS
abbrev s_law : Stmt := topS 34
theorem sc_law : FnScope ["_law_script", "_law_generator_here", "_law_one", "_law_other", "_law_bad", "_law_sign", "_law_bads", "_law_thing", "_law_told"] ["_law_script"] (defScope s_law) := ⟨rfl, rfl, rfl, by decide +kernel, rfl, by decide +kernel, by decide +kernel⟩
def sp_law (K : PySem.W.Frag) : Sp := fun vs H Q _ => ∃ (p : Addr) (ns : List Int), vs = [.ref p] ∧ SqL K H p (ns.map V.int) ∧ ∀ H', Q (.bl true) H'
section
variable {P : Program} {w : World} {K : PySem.W.Frag} {mg : Str → Option Value} {base : Heap} {CN CL CD CB : Addr}

theorem pick {H : Hp} : ∀ {xs : List V} {ds : List PyData}, DTs H xs ds → ∀ {i : Nat} {x : V}, xs[i]? = some x → ∃ d, d ∈ ds ∧ DT H x d
  | _, _, .nil, i, x, h => by cases i <;> cases h
  | _, _, .cons a _, 0, x, h => ⟨_, List.mem_cons_self .., Option.some.inj h ▸ a⟩
  | _, _, .cons _ r, i + 1, x, h => by
    obtain ⟨d, m, t⟩ := pick r (i := i) (x := x) h
    exact ⟨d, List.mem_cons_of_mem _ m, t⟩
theorem new_l {H : Hp} {xs : List V} {ds : List PyData} {l : Addr} (n : H l = none) (r : DTs H xs ds) : ∃ H', upd H l (.lst xs) = H' ∧ Same H H' ∧ DT H' (.ref l) (.list ds) ∧ H' l = some (.lst xs) :=
  ⟨_, rfl, same_new n, .lst upd_same (r.same (same_new n) _), upd_same⟩
theorem new_t {H : Hp} {xs : List V} {ds : List PyData} {l : Addr} (n : H l = none) (r : DTs H xs ds) : ∃ H', upd H l (.tup xs) = H' ∧ Same H H' ∧ DT H' (.ref l) (.tuple ds) ∧ H' l = some (.tup xs) :=
  ⟨_, rfl, same_new n, .tup upd_same (r.same (same_new n) _), upd_same⟩
theorem new_d {H : Hp} {l : Addr} (n : H l = none) : ∃ H', upd H l (.dK []) = H' ∧ Same H H' ∧ DT H' (.ref l) (.dict []) :=
  ⟨_, rfl, same_new n, .dct upd_same⟩
theorem small_ok : ∀ n : Nat, n < 100 → (PyData.shown (.int ((n : Int) - 50))).length ≤ 40 := by decide +kernel
theorem intok_of {r : Int} (h0 : 0 ≤ r) (h1 : r < 100) : IntOk (r - 50) := by
  have e : r = ((r.toNat : Nat) : Int) := by omega
  refine ⟨?_, Nat.lt_of_lt_of_le (PySem.Flt.log2_lt_of (by decide) (show (r - 50).natAbs < 2 ^ 65 by omega)) (by decide)⟩
  rw [e]
  exact small_ok _ (by omega)
theorem io {i : Int} (h : (PyData.shown (.int i)).length ≤ 40) (l : i.natAbs < 2 ^ 65) : IntOk i := ⟨h, Nat.lt_of_lt_of_le (PySem.Flt.log2_lt_of (by decide) l) (by decide)⟩
theorem text3 {d : PyData} (h : Ok3 3 d) : TextOk d := .inl ⟨3, by decide, h⟩
theorem pair_d : PairOk (.dict []) .none := .inr ⟨.inl ⟨rfl, rfl⟩, by decide +kernel⟩
def sg7 : List Str := ["plus", "minus", "times", "over", "rest", "less", "same"]
theorem pair_z : ∀ z ∈ sg7, PairOk (.str z) (.dict []) := fun z hz => .inr ⟨.inr ⟨z, rfl, rfl⟩, (show ∀ z ∈ sg7, (PyData.shown (.list [.str z, .dict []])).length ≤ sizeLine by decide +kernel) z hz⟩
theorem pick_z : ∀ {zs : List Str} {i : Nat} {x : V}, (zs.map V.str)[i]? = some x → ∃ z ∈ zs, x = .str z
  | z :: _, 0, _, h => ⟨z, List.mem_cons_self .., (Option.some.inj h).symm⟩
  | _ :: zs, i + 1, _, h => by
    obtain ⟨y, m, e⟩ := pick_z (zs := zs) (i := i) h
    exact ⟨y, List.mem_cons_of_mem _ m, e⟩
theorem deeds7 {a b : Int} (ha : InR a) (hb : InR b) : ∀ z ∈ sg7, ∃ r, Deed z (.int a) (.int b) r := by
  intro z hz
  rcases List.mem_cons.mp hz with rfl | hz
  · exact ⟨_, .plus ha hb⟩
  rcases List.mem_cons.mp hz with rfl | hz
  · exact ⟨_, .minus ha hb⟩
  rcases List.mem_cons.mp hz with rfl | hz
  · exact ⟨_, .times ha hb⟩
  rcases List.mem_cons.mp hz with rfl | hz
  · exact ⟨_, .over ha hb⟩
  rcases List.mem_cons.mp hz with rfl | hz
  · exact ⟨_, .rest ha hb⟩
  rcases List.mem_cons.mp hz with rfl | hz
  · exact ⟨_, .less ha hb⟩
  rcases List.mem_cons.mp hz with rfl | hz
  · exact ⟨_, .same ha hb⟩
  cases hz
/-- what is bad, and why -/
def ds0 : List PyData := [.none, .bool true, .str "1", .list [.int 1], .tuple [.int 1], .dict []]
theorem good0 : ∀ d ∈ ds0, isW d = false ∧ TextOk d ∧ PairOk d .none := by
  have o : ∀ d, okb 3 d = true → (∀ i ∈ intsOf d, IntOk i) → isW d = false → isW d = false ∧ TextOk d ∧ PairOk d .none := fun d h hi w => ⟨w, text3 (ok3_of 3 d h hi), pair_ok (ok3_of 3 d h hi) .non⟩
  intro d hd
  have one : IntOk 1 := io (by decide +kernel) (by decide)
  rcases List.mem_cons.mp hd with rfl | hd
  · exact o _ (by decide +kernel) (by simp [intsOf]) rfl
  rcases List.mem_cons.mp hd with rfl | hd
  · exact o _ (by decide +kernel) (by simp [intsOf]) rfl
  rcases List.mem_cons.mp hd with rfl | hd
  · exact o _ (by decide +kernel) (by simp [intsOf]) rfl
  rcases List.mem_cons.mp hd with rfl | hd
  · exact o _ (by decide +kernel) (by simpa [intsOf, intsOfs] using one) rfl
  rcases List.mem_cons.mp hd with rfl | hd
  · exact o _ (by decide +kernel) (by simpa [intsOf, intsOfs] using one) rfl
  rcases List.mem_cons.mp hd with rfl | hd
  · exact ⟨rfl, .inr rfl, pair_d⟩
  cases hd
def ds1 : List PyData := [.none, .int 0, .bool true, .str "", .str "PLUS", .str "plus ", .list [.str "plus"], .tuple [.str "plus"], .str "and", .str "divide"]
theorem good1 {K : PySem.W.Frag} {dS : Addr} (sh : ∀ z ∈ (["", "PLUS", "plus ", "and", "divide"] : List Str), PySem.W.nsIn K dS z = some none) : ∀ d ∈ ds1, noSign K dS d ∧ Ok3 3 d := by
  intro d hd
  have zero : IntOk 0 := io (by decide +kernel) (by decide)
  rcases List.mem_cons.mp hd with rfl | hd
  · exact ⟨trivial, .non⟩
  rcases List.mem_cons.mp hd with rfl | hd
  · exact ⟨trivial, .int zero⟩
  rcases List.mem_cons.mp hd with rfl | hd
  · exact ⟨trivial, .bl _⟩
  rcases List.mem_cons.mp hd with rfl | hd
  · exact ⟨sh _ (by decide), ok3_of 3 _ (by decide +kernel) (by simp [intsOf])⟩
  rcases List.mem_cons.mp hd with rfl | hd
  · exact ⟨sh _ (by decide), ok3_of 3 _ (by decide +kernel) (by simp [intsOf])⟩
  rcases List.mem_cons.mp hd with rfl | hd
  · exact ⟨sh _ (by decide), ok3_of 3 _ (by decide +kernel) (by simp [intsOf])⟩
  rcases List.mem_cons.mp hd with rfl | hd
  · exact ⟨trivial, ok3_of 3 _ (by decide +kernel) (by simp [intsOf, intsOfs])⟩
  rcases List.mem_cons.mp hd with rfl | hd
  · exact ⟨trivial, ok3_of 3 _ (by decide +kernel) (by simp [intsOf, intsOfs])⟩
  rcases List.mem_cons.mp hd with rfl | hd
  · exact ⟨sh _ (by decide), ok3_of 3 _ (by decide +kernel) (by simp [intsOf])⟩
  rcases List.mem_cons.mp hd with rfl | hd
  · exact ⟨sh _ (by decide), ok3_of 3 _ (by decide +kernel) (by simp [intsOf])⟩
  cases hd
def ds2 (a b : Int) : List PyData := [.none, .int a, .tuple [.int a, .int b], .str "12", .list [], .list [.int a], .list [.int a, .int b, .int a], .list [.int a, .none], .list [.bool true, .int b], .list [.int a, .bool false], .list [.int a, .int 9223372036854775808]]
def ds2b (a b : Int) : List PyData := [.list [.int (-9223372036854775809), .int b], .list [.list [.int a], .int b], .list [.str "1", .int b], .dict []]
theorem good2 {a b : Int} (ha : IntOk a) (hb : IntOk b) : ∀ d ∈ ds2 a b ++ ds2b a b, wantedD "num" 2 d = false ∧ (Ok3 3 d ∨ d = .dict []) := by
  have big : IntOk 9223372036854775808 := io (by decide +kernel) (by decide)
  have low : IntOk (-9223372036854775809) := io (by decide +kernel) (by decide)
  have s1 : PyData.strOk "1" = true ∧ ("1" : Str).length ≤ 40 := by decide +kernel
  have nb : inR 9223372036854775808 = false := by decide
  have nl : inR (-9223372036854775809) = false := by decide
  have o : ∀ d, wantedD "num" 2 d = false → okb 3 d = true → (∀ i ∈ intsOf d, i = a ∨ i = b ∨ i = 9223372036854775808 ∨ i = -9223372036854775809) → wantedD "num" 2 d = false ∧ (Ok3 3 d ∨ d = .dict []) := fun d h1 h2 h3 => ⟨h1, .inl (ok3_of 3 d h2 fun i hi => by
    rcases h3 i hi with rfl | rfl | rfl | rfl
    · exact ha
    · exact hb
    · exact big
    · exact low)⟩
  intro d hd
  simp only [ds2, ds2b, List.cons_append, List.nil_append, List.mem_cons, List.not_mem_nil, or_false] at hd
  rcases hd with rfl | rfl | rfl | rfl | rfl | rfl | rfl | rfl | rfl | rfl | rfl | rfl | rfl | rfl | rfl
  · exact o _ rfl (by decide +kernel) (by simp [intsOf])
  · exact o _ rfl (by rfl) (by simp [intsOf])
  · exact o _ rfl (by rfl) (by simp [intsOf, intsOfs])
  · exact o _ rfl (by decide +kernel) (by simp [intsOf])
  · exact o _ rfl (by decide +kernel) (by simp [intsOf, intsOfs])
  · exact o _ (by simp [wantedD]) (by rfl) (by simp [intsOf, intsOfs])
  · exact o _ (by simp [wantedD]) (by rfl) (by simp [intsOf, intsOfs])
  · exact o _ (by simp [wantedD, numD]) (by rfl) (by simp [intsOf, intsOfs])
  · exact o _ (by simp [wantedD, numD]) (by rfl) (by simp [intsOf, intsOfs])
  · exact o _ (by simp [wantedD, numD]) (by rfl) (by simp [intsOf, intsOfs])
  · exact o _ (by simp [wantedD, numD, nb]) (by rfl) (by simp [intsOf, intsOfs])
  · exact o _ (by simp [wantedD, numD, nl]) (by rfl) (by simp [intsOf, intsOfs])
  · exact o _ (by simp [wantedD, numD]) (by rfl) (by simp [intsOf, intsOfs])
  · exact o _ (by simp [wantedD, numD]) (by simp [okb, okbs, s1.1, s1.2]) (by simp [intsOf, intsOfs])
  · exact ⟨rfl, .inr rfl⟩
def ds3 : List PyData := [.none, .bool true, .tuple [.bool true, .bool false], .list [], .list [.bool true], .list [.bool true, .bool false, .bool true], .list [.bool true, .int 0], .list [.int 1, .bool false], .list [.none, .bool true]]
def ds4 : List PyData := [.none, .bool true, .tuple [.bool true], .list [], .list [.bool true, .bool true], .list [.int 0], .list [.int 1], .list [.none]]
theorem good34 {many : Nat} {ds : List PyData} (c : ds.all (fun d => !wantedD "flag" many d && okb 3 d && (intsOf d).all fun i => decide (i = 0 ∨ i = 1)) = true) : ∀ d ∈ ds, wantedD "flag" many d = false ∧ Ok3 3 d := by
  intro d hd
  have h := List.all_eq_true.mp c d hd
  rw [Bool.and_eq_true, Bool.and_eq_true] at h
  obtain ⟨⟨h1, h2⟩, h3⟩ := h
  refine ⟨by simpa using h1, ok3_of 3 d h2 fun i hi => ?_⟩
  have := of_decide_eq_true (List.all_eq_true.mp h3 i hi)
  rcases this with rfl | rfl
  · exact io (by decide +kernel) (by decide)
  · exact io (by decide +kernel) (by decide)
theorem good3 : ∀ d ∈ ds3, wantedD "flag" 2 d = false ∧ Ok3 3 d := good34 (by decide +kernel)
theorem good4 : ∀ d ∈ ds4, wantedD "flag" 1 d = false ∧ Ok3 3 d := good34 (by decide +kernel)
theorem dt_fl {H : Hp} : DTs H (flags none) [.bool false, .bool false, .bool false] := .cons (.bl _) (.cons (.bl _) (.cons (.bl _) .nil))
def dR : PyData := .tuple [.list [.bool false, .bool false, .bool false], .none]
theorem dR_ok : plain dR = true ∧ PyData.eqv dR dR = true ∧ SeqAt.shaped dR = true := by decide +kernel
def dT2 : PyData := .list [.none, .int 7]
theorem dT2_ok : plain dT2 = true ∧ PyData.eqv dT2 dT2 = true ∧ SeqAt.shaped dT2 = true := by decide +kernel
theorem DTs.append {H : Hp} : ∀ {xs : List V} {ds : List PyData}, DTs H xs ds → ∀ {ys : List V} {es : List PyData}, DTs H ys es → DTs H (xs ++ ys) (ds ++ es)
  | _, _, .nil, _, _, h => h
  | _, _, .cons a r, _, _, h => .cons a (r.append h)
theorem ok3z (z : Str) (hz : z ∈ sg7) {n : Nat} : Ok3 n (.str z) := by
  have h := (show ∀ z ∈ sg7, PyData.strOk z = true ∧ z.length ≤ 40 by decide +kernel) z hz
  exact .str h.1 h.2
def sg2 : List Str := ["both", "any"]
theorem ok3y (z : Str) (hz : z ∈ sg2) {n : Nat} : Ok3 n (.str z) := by
  have h := (show ∀ z ∈ sg2, PyData.strOk z = true ∧ z.length ≤ 40 by decide +kernel) z hz
  exact .str h.1 h.2

theorem c_law (T : TLaw P K w mg CN CL CD CB) {fl : Addr} {fdl : FuncData} (F : Fun K "law" "law" s_law fl fdl) : FnG P w K mg base CX0 8 fl fdl ["_law_script"] (sp_law K) := by
  obtain ⟨dS, es, nS, gS, DS, sh1, sh2, sh3, sh4, sh5⟩ := T.tn.g_SHAPES
  refine fnG F sc_law (fun vs H Q E h => ?_) (fun f cdv A outer s H vs Q E ga hr h => ?_)
  · obtain ⟨_, _, rfl, _⟩ := h; rfl
  refine ⟨_, (pss_cons (ps_set (i := 1) sc_law.nd rfl (.inl rfl) (pe_s (c_l_generator T.tg) hr (pa_cons (pv 0) (pa_cons pe_int pa_nil)))) (pss_cons (ps_par (i := 2) (j := 3) rfl sc_law.nd rfl rfl (by decide) rfl rfl (pa_cons (pe_op op_sub (pe_s (c_l_random T.tg) hr (pa_cons (pv 1) (pa_cons pe_int pa_nil))) pe_int) (pa_cons (pe_op op_sub (pe_s (c_l_random T.tg) hr (pa_cons (pv 1) (pa_cons pe_int pa_nil))) pe_int) pa_nil)) rfl) (pss_cons (ps_for PassesOwn.never rfl (pi_list (pe_lst (pa_cons pe_non (pa_cons pe_bl (pa_cons pe_str (pa_cons (pe_lst (pa_cons pe_int pa_nil)) (pa_cons (pe_tup (pa_cons pe_int pa_nil)) (pa_cons pe_dnewK pa_nil)))))))) (pg_name (i := 4) sc_law.nd rfl (.inl rfl)) (pss_one (ps_if (pt_not (pt_val (pe_g (c_l_only T) ga hr (pa_cons (pe_g (c_l_caught T gS DS) ga hr (pa_cons pe_int (pa_cons (pv 4) (pa_cons pe_non pa_nil)))) (pa_cons pe_int (pa_cons (pv 4) pa_nil)))))) (pss_one (ps_ret pe_bl)) pss_nil))) (pss_cons (ps_for PassesOwn.never rfl (pi_list (pe_lst (pa_cons pe_non (pa_cons pe_int (pa_cons pe_bl (pa_cons pe_str (pa_cons pe_str (pa_cons pe_str (pa_cons (pe_lst (pa_cons pe_str pa_nil)) (pa_cons (pe_tup (pa_cons pe_str pa_nil)) (pa_cons pe_str (pa_cons pe_str pa_nil)))))))))))) (pg_name (i := 4) sc_law.nd rfl (.inl rfl)) (pss_one (ps_if (PW.pt (pw_or (pt_not (pt_val (pe_g (c_l_only T) ga hr (pa_cons (pe_g (c_l_caught T gS DS) ga hr (pa_cons pe_int (pa_cons (pv 4) (pa_cons pe_non pa_nil)))) (pa_cons pe_int (pa_cons (pv 4) pa_nil)))))) (pw_or1 (pt_not (pt_val (pe_g (c_l_only T) ga hr (pa_cons (pe_g (c_l_caught T gS DS) ga hr (pa_cons pe_int (pa_cons (pv 4) (pa_cons (pe_lst (pa_cons (pv 2) (pa_cons (pv 3) pa_nil))) pa_nil)))) (pa_cons pe_int (pa_cons (pv 4) pa_nil))))))))) (pss_one (ps_ret pe_bl)) pss_nil))) (pss_cons (ps_for PassesOwn.never rfl (pi_list (pe_lst (pa_cons pe_str (pa_cons pe_str (pa_cons pe_str (pa_cons pe_str (pa_cons pe_str (pa_cons pe_str (pa_cons pe_str pa_nil))))))))) (pg_name (i := 5) sc_law.nd rfl (.inl rfl)) (pss_cons (ps_set (i := 6) sc_law.nd rfl (.inl rfl) (pe_lst (pa_cons pe_non (pa_cons (pv 2) (pa_cons (pe_tup (pa_cons (pv 2) (pa_cons (pv 3) pa_nil))) (pa_cons pe_str (pa_cons (pe_lst pa_nil) (pa_cons (pe_lst (pa_cons (pv 2) pa_nil)) (pa_cons (pe_lst (pa_cons (pv 2) (pa_cons (pv 3) (pa_cons (pv 2) pa_nil)))) (pa_cons (pe_lst (pa_cons (pv 2) (pa_cons pe_non pa_nil))) (pa_cons (pe_lst (pa_cons pe_bl (pa_cons (pv 3) pa_nil))) (pa_cons (pe_lst (pa_cons (pv 2) (pa_cons pe_bl pa_nil))) (pa_cons (pe_lst (pa_cons (pv 2) (pa_cons pe_int pa_nil))) pa_nil))))))))))))) (pss_cons (ps_for PassesOwn.never rfl (pi_list (pe_op op_cat (pv 6) (pe_lst (pa_cons (pe_lst (pa_cons (pe_un un_neg pe_int) (pa_cons (pv 3) pa_nil))) (pa_cons (pe_lst (pa_cons (pe_lst (pa_cons (pv 2) pa_nil)) (pa_cons (pv 3) pa_nil))) (pa_cons (pe_lst (pa_cons pe_str (pa_cons (pv 3) pa_nil))) (pa_cons pe_dnewK pa_nil))))))) (pg_name (i := 4) sc_law.nd rfl (.inl rfl)) (pss_one (ps_if (pt_not (pt_val (pe_g (c_l_only T) ga hr (pa_cons (pe_g (c_l_caught T gS DS) ga hr (pa_cons pe_int (pa_cons (pv 5) (pa_cons (pv 4) pa_nil)))) (pa_cons pe_int (pa_cons (pv 4) pa_nil)))))) (pss_one (ps_ret pe_bl)) pss_nil))) (pss_one (ps_if (pt_cmpR (op_neD hr.units) (pe_g (c_l_caught T gS DS) ga hr (pa_cons pe_int (pa_cons (pv 5) (pa_cons (pe_lst (pa_cons (pv 2) (pa_cons (pv 3) pa_nil))) pa_nil)))) (pe_tup (pa_cons (pe_op op_rep (pe_lst (pa_cons pe_bl pa_nil)) pe_int) (pa_cons pe_non pa_nil))) (nomark _)) (pss_one (ps_ret pe_bl)) pss_nil))))) (pss_cons (ps_for PassesOwn.never rfl (pi_list (pe_lst (pa_cons pe_str (pa_cons pe_str pa_nil)))) (pg_name (i := 5) sc_law.nd rfl (.inl rfl)) (pss_one (ps_for PassesOwn.never rfl (pi_list (pe_lst (pa_cons pe_non (pa_cons pe_bl (pa_cons (pe_tup (pa_cons pe_bl (pa_cons pe_bl pa_nil))) (pa_cons (pe_lst pa_nil) (pa_cons (pe_lst (pa_cons pe_bl pa_nil)) (pa_cons (pe_lst (pa_cons pe_bl (pa_cons pe_bl (pa_cons pe_bl pa_nil)))) (pa_cons (pe_lst (pa_cons pe_bl (pa_cons pe_int pa_nil))) (pa_cons (pe_lst (pa_cons pe_int (pa_cons pe_bl pa_nil))) (pa_cons (pe_lst (pa_cons pe_non (pa_cons pe_bl pa_nil))) pa_nil))))))))))) (pg_name (i := 4) sc_law.nd rfl (.inl rfl)) (pss_one (ps_if (pt_not (pt_val (pe_g (c_l_only T) ga hr (pa_cons (pe_g (c_l_caught T gS DS) ga hr (pa_cons pe_int (pa_cons (pv 5) (pa_cons (pv 4) pa_nil)))) (pa_cons pe_int (pa_cons (pv 4) pa_nil)))))) (pss_one (ps_ret pe_bl)) pss_nil))))) (pss_cons (ps_for PassesOwn.never rfl (pi_list (pe_lst (pa_cons pe_non (pa_cons pe_bl (pa_cons (pe_tup (pa_cons pe_bl pa_nil)) (pa_cons (pe_lst pa_nil) (pa_cons (pe_lst (pa_cons pe_bl (pa_cons pe_bl pa_nil))) (pa_cons (pe_lst (pa_cons pe_int pa_nil)) (pa_cons (pe_lst (pa_cons pe_int pa_nil)) (pa_cons (pe_lst (pa_cons pe_non pa_nil)) pa_nil)))))))))) (pg_name (i := 4) sc_law.nd rfl (.inl rfl)) (pss_one (ps_if (pt_not (pt_val (pe_g (c_l_only T) ga hr (pa_cons (pe_g (c_l_caught T gS DS) ga hr (pa_cons pe_int (pa_cons pe_str (pa_cons (pv 4) pa_nil)))) (pa_cons pe_int (pa_cons (pv 4) pa_nil)))))) (pss_one (ps_ret pe_bl)) pss_nil))) (pss_cons (ps_set (i := 7) sc_law.nd rfl (.inl rfl) (pe_lst (pa_cons pe_non pa_nil))) (pss_cons (ps_set (i := 8) sc_law.nd rfl (.inl rfl) (pe_g (c_l_caught T gS DS) ga hr (pa_cons pe_int (pa_cons pe_str (pa_cons (pv 7) pa_nil))))) (pss_cons (ps_expr (pe_bm PySem.F.plainAttrs_list PySem.F.slot_list_append PySem.F.type_list_append mt_append (pv 7) (pa_cons pe_int pa_nil))) (pss_one (ps_ret (pe_and (pe_cmpR (op_eqD hr.units) (pe_ix ix_tup (pv 8) pe_int (fun _ _ => rfl)) (pe_lst (pa_cons pe_non (pa_cons pe_int pa_nil))) (nomark _)) (pe_and (pe_cmpR (op_eqD hr.units) (pe_g (c_l_caught T gS DS) ga hr (pa_cons pe_int (pa_cons pe_str (pa_cons (pe_lst (pa_cons pe_bl pa_nil)) pa_nil)))) (pe_tup (pa_cons (pe_op op_rep (pe_lst (pa_cons pe_bl pa_nil)) pe_int) (pa_cons pe_non pa_nil))) (nomark _)) (pe_one (pe_cmpR (op_eqD hr.units) (pe_g (c_l_caught T gS DS) ga hr (pa_cons pe_int (pa_cons (pe_op op_powA pe_int pe_int) (pa_cons pe_non pa_nil)))) (pe_tup (pa_cons (pe_op op_rep (pe_lst (pa_cons pe_bl pa_nil)) pe_int) (pa_cons pe_non pa_nil))) (nomark _))))))))))))))))), ?_⟩

  obtain ⟨p, ns, rfl, hS, q⟩ := h
  refine ⟨_, rfl, p, ns, 0, rfl, hS, by decide, by decide, fun g a0 s0 H1 hg s1 hp1 => ?_⟩
  refine ⟨_, rfl, g, a0, s0, _, 100, rfl, hp1, by decide, by decide, by decide, by decide, fun r1 a1 t1 b1 b2 b3 b4 => ?_⟩
  refine ⟨_, _, rfl, rfl, ?_⟩
  refine ⟨_, rfl, g, a1, s0, t1, 100, rfl, upd_same, by decide, by decide, by omega, by omega, fun r2 a2 t2 b5 b6 b7 b8 => ?_⟩
  refine ⟨_, _, rfl, rfl, ?_⟩
  refine ⟨_, _, rfl, ?_⟩
  have i1 := intok_of b1 b2
  have i2 := intok_of b5 b6
  have n1 : InR (r1 - 50) := ⟨by omega, by omega⟩
  have n2 : InR (r2 - 50) := ⟨by omega, by omega⟩
  generalize upd (upd H1 g (gen a1 s0 t1)) g (gen a2 s0 t2) = G0
  -- numbers
  refine ⟨(show 1 ≤ sizeLine by decide), fun l1 m1 => ?_⟩
  obtain ⟨G1, e1, u1, d1, -⟩ := new_l m1 (ds := [.int 1]) (.cons (.int _) .nil)
  rw [e1]
  refine ⟨(show 1 ≤ sizeLine by decide), fun l2 m2 => ?_⟩
  obtain ⟨G2, e2, u2, d2, -⟩ := new_t m2 (ds := [.int 1]) (.cons (.int _) .nil)
  rw [e2]
  refine fun l3 m3 => ?_
  obtain ⟨G3, e3, u3, d3⟩ := new_d m3
  rw [e3]
  refine ⟨(show 6 ≤ sizeLine by decide), fun l m => ?_⟩
  obtain ⟨G, e, u, -, dl⟩ := new_l m (ds := ds0) (.cons .non (.cons (.bl _) (.cons (.str _) (.cons ((d1.same u2 _).same u3 _) (.cons (d2.same u3 _) (.cons d3 .nil))))))
  have dd : DTs G _ ds0 := DTs.same u ds0 (.cons .non (.cons (.bl _) (.cons (.str _) (.cons ((d1.same u2 _).same u3 _) (.cons (d2.same u3 _) (.cons d3 .nil))))))
  rw [e]
  clear e1 e2 e3 e u1 u2 u3 u d1 d2 d3 m1 m2 m3 m
  refine ⟨_, rfl, ⟨_, SqL.of dl⟩, for_list (xs := [.non, .bl true, .str "1", .ref l1, .ref l2, .ref l3])
    (fun i σ H' => (∃ x4 : Option V, σ = [some (.ref p), some (.ref g), some (.int (r1 - 50)), some (.int (r2 - 50)), x4, none, none, none, none]) ∧ Same G H')
    ⟨⟨_, rfl⟩, Same.refl _⟩ (fun i σ H' _ h => SqL.of (h.2 _ _ dl)) ?_ ?_⟩
  · rintro i x σ H' hx ⟨⟨x4, rfl⟩, s2⟩
    obtain ⟨d, md, dx⟩ := pick (dd.same s2 _) hx
    obtain ⟨w, tx, po⟩ := good0 d md
    refine ⟨_, rfl, 0, x, .non, x, d, .none, some 0, rfl, dx, .non, po, case_num dx w, fun t l' H2 s3 ht hl => ?_⟩
    refine ⟨_, rfl, t, l', 0, x, d, rfl, by decide, ht, hl, dx.same s3 _, tx, fun H3 s4 => ?_⟩
    exact ⟨_, rfl, iteF ⟨⟨_, rfl⟩, (s2.trans s3).trans s4⟩⟩
  rintro σ G0 ⟨⟨x4, rfl⟩, -⟩
  clear b1 b2 b3 b4 b5 b6 b7 b8 dd dl
  generalize r1 - 50 = one at i1 n1 ⊢
  generalize r2 - 50 = oth at i2 n2 ⊢
  -- no signs
  refine ⟨(show 1 ≤ sizeLine by decide), fun l1 m1 => ?_⟩
  obtain ⟨G1, e1, u1, d1, -⟩ := new_l m1 (ds := [.str "plus"]) (.cons (.str _) .nil)
  rw [e1]
  refine ⟨(show 1 ≤ sizeLine by decide), fun l2 m2 => ?_⟩
  obtain ⟨G2, e2, u2, d2, -⟩ := new_t m2 (ds := [.str "plus"]) (.cons (.str _) .nil)
  rw [e2]
  refine ⟨(show 10 ≤ sizeLine by decide), fun l m => ?_⟩
  obtain ⟨G, e, u, dg, dl⟩ := new_l m (ds := ds1) (.cons .non (.cons (.int _) (.cons (.bl _) (.cons (.str _) (.cons (.str _) (.cons (.str _) (.cons (d1.same u2 _) (.cons d2 (.cons (.str _) (.cons (.str _) .nil))))))))))
  have dd : DTs G _ ds1 := DTs.same u ds1 (.cons .non (.cons (.int _) (.cons (.bl _) (.cons (.str _) (.cons (.str _) (.cons (.str _) (.cons (d1.same u2 _) (.cons d2 (.cons (.str _) (.cons (.str _) .nil))))))))))
  rw [e]
  clear e1 e2 e u1 u2 u d1 d2 m1 m2 m
  refine ⟨_, rfl, ⟨_, SqL.of dl⟩, for_list (xs := [.non, .int 0, .bl true, .str "", .str "PLUS", .str "plus ", .ref l1, .ref l2, .str "and", .str "divide"])
    (fun i σ H' => (∃ x4 : Option V, σ = [some (.ref p), some (.ref g), some (.int one), some (.int oth), x4, none, none, none, none]) ∧ Same G H')
    ⟨⟨_, rfl⟩, Same.refl _⟩ (fun i σ H' _ h => SqL.of (h.2 _ _ dl)) ?_ ?_⟩
  · rintro i x σ H' hx ⟨⟨x5, rfl⟩, s2⟩
    obtain ⟨d, md, dx⟩ := pick (dd.same s2 _) hx
    obtain ⟨w, ok⟩ := good1 sh5 d md
    refine ⟨_, rfl, 1, x, .non, x, d, .none, some 1, rfl, dx, .non, pair_ok ok .non, case_deed dx w, fun t l' H2 s3 ht hl => ?_⟩
    refine ⟨_, rfl, t, l', 1, x, d, rfl, by decide, ht, hl, dx.same s3 _, text3 ok, fun H3 s4 => ?_⟩
    refine ⟨_, rfl, iteF ?_⟩
    have dx3 := (dx.same s3 _).same s4 _
    have s5 := (s2.trans s3).trans s4
    refine ⟨_, rfl, _, rfl, _, rfl, (show 2 ≤ sizeLine by decide), fun l4 m4 => ?_⟩
    obtain ⟨H4, e4, u4, d4, -⟩ := new_l m4 (ds := [.int one, .int oth]) (.cons (.int _) (.cons (.int _) .nil))
    rw [e4]
    have dx4 := dx3.same u4 _
    refine ⟨1, x, .ref l4, x, d, .list [.int one, .int oth], some 1, rfl, dx4, d4, pair_ok ok (.lst (by simp) ?_), case_deed dx4 w, fun t l' H5 s6 ht hl => ?_⟩
    · intro d hd
      simp only [List.mem_cons, List.not_mem_nil, or_false] at hd
      rcases hd with rfl | rfl
      · exact .int i1
      · exact .int i2
    refine ⟨_, rfl, t, l', 1, x, d, rfl, by decide, ht, hl, dx4.same s6 _, text3 ok, fun H6 s7 => ?_⟩
    exact ⟨_, rfl, iteF ⟨⟨_, rfl⟩, ((s5.trans u4).trans s6).trans s7⟩⟩
  rintro σ G0 ⟨⟨x5, rfl⟩, -⟩
  clear dd dl dg
  refine ⟨(show 7 ≤ sizeLine by decide), fun lS mS => ?_⟩
  refine ⟨_, rfl, ⟨_, SqL.of upd_same⟩, for_list (xs := sg7.map V.str)
    (fun i σ H' => (∃ x4 x5 x6 : Option V, σ = [some (.ref p), some (.ref g), some (.int one), some (.int oth), x4, x5, x6, none, none]) ∧ Same (upd G0 lS (.lst (sg7.map V.str))) H')
    ⟨⟨_, _, _, rfl⟩, Same.refl _⟩ (fun i σ H' _ h => SqL.of (h.2 _ _ upd_same)) ?_ ?_⟩
  · rintro i x σ B0 hx ⟨⟨x4, y5, x6, rfl⟩, s0⟩
    obtain ⟨z, mz, rfl⟩ := pick_z hx
    obtain ⟨gives, shz⟩ : ∃ gives, Shape K dS z "num" ((2 : Nat) : Int) gives := by
      simp only [sg7, List.mem_cons, List.not_mem_nil, or_false] at mz
      rcases mz with rfl | rfl | rfl | rfl | rfl | rfl | rfl
      · exact ⟨_, sh1 _ (by decide)⟩
      · exact ⟨_, sh1 _ (by decide)⟩
      · exact ⟨_, sh1 _ (by decide)⟩
      · exact ⟨_, sh1 _ (by decide)⟩
      · exact ⟨_, sh1 _ (by decide)⟩
      · exact ⟨_, sh2 _ (by decide)⟩
      · exact ⟨_, sh2 _ (by decide)⟩
    refine ⟨_, rfl, ?_⟩
    refine ⟨_, rfl, ?_⟩
    refine ⟨_, rfl, ?_⟩
    refine ⟨(show 2 ≤ sizeLine by decide), fun la0 ma0 => ?_⟩
    obtain ⟨Ga0, ea0, ua0, da0, xa0⟩ := new_t ma0 (ds := [.int one, .int oth]) (.cons (.int _) (.cons (.int _) .nil))
    rw [ea0]
    refine ⟨(show 0 ≤ sizeLine by decide), fun la1 ma1 => ?_⟩
    obtain ⟨Ga1, ea1, ua1, da1, xa1⟩ := new_l ma1 (ds := []) (.nil)
    rw [ea1]
    replace da0 := da0.same ua1 _
    refine ⟨_, rfl, ?_⟩
    refine ⟨(show 1 ≤ sizeLine by decide), fun la2 ma2 => ?_⟩
    obtain ⟨Ga2, ea2, ua2, da2, xa2⟩ := new_l ma2 (ds := [.int one]) (.cons (.int _) .nil)
    rw [ea2]
    replace da0 := da0.same ua2 _
    replace da1 := da1.same ua2 _
    refine ⟨_, rfl, ?_⟩
    refine ⟨_, rfl, ?_⟩
    refine ⟨_, rfl, ?_⟩
    refine ⟨(show 3 ≤ sizeLine by decide), fun la3 ma3 => ?_⟩
    obtain ⟨Ga3, ea3, ua3, da3, xa3⟩ := new_l ma3 (ds := [.int one, .int oth, .int one]) (.cons (.int _) (.cons (.int _) (.cons (.int _) .nil)))
    rw [ea3]
    replace da0 := da0.same ua3 _
    replace da1 := da1.same ua3 _
    replace da2 := da2.same ua3 _
    refine ⟨_, rfl, ?_⟩
    refine ⟨(show 2 ≤ sizeLine by decide), fun la4 ma4 => ?_⟩
    obtain ⟨Ga4, ea4, ua4, da4, xa4⟩ := new_l ma4 (ds := [.int one, .none]) (.cons (.int _) (.cons .non .nil))
    rw [ea4]
    replace da0 := da0.same ua4 _
    replace da1 := da1.same ua4 _
    replace da2 := da2.same ua4 _
    replace da3 := da3.same ua4 _
    refine ⟨_, rfl, ?_⟩
    refine ⟨(show 2 ≤ sizeLine by decide), fun la5 ma5 => ?_⟩
    obtain ⟨Ga5, ea5, ua5, da5, xa5⟩ := new_l ma5 (ds := [.bool true, .int oth]) (.cons (.bl _) (.cons (.int _) .nil))
    rw [ea5]
    replace da0 := da0.same ua5 _
    replace da1 := da1.same ua5 _
    replace da2 := da2.same ua5 _
    replace da3 := da3.same ua5 _
    replace da4 := da4.same ua5 _
    refine ⟨_, rfl, ?_⟩
    refine ⟨(show 2 ≤ sizeLine by decide), fun la6 ma6 => ?_⟩
    obtain ⟨Ga6, ea6, ua6, da6, xa6⟩ := new_l ma6 (ds := [.int one, .bool false]) (.cons (.int _) (.cons (.bl _) .nil))
    rw [ea6]
    replace da0 := da0.same ua6 _
    replace da1 := da1.same ua6 _
    replace da2 := da2.same ua6 _
    replace da3 := da3.same ua6 _
    replace da4 := da4.same ua6 _
    replace da5 := da5.same ua6 _
    refine ⟨_, rfl, ?_⟩
    refine ⟨(show 2 ≤ sizeLine by decide), fun la7 ma7 => ?_⟩
    obtain ⟨Ga7, ea7, ua7, da7, xa7⟩ := new_l ma7 (ds := [.int one, .int 9223372036854775808]) (.cons (.int _) (.cons (.int _) .nil))
    rw [ea7]
    replace da0 := da0.same ua7 _
    replace da1 := da1.same ua7 _
    replace da2 := da2.same ua7 _
    replace da3 := da3.same ua7 _
    replace da4 := da4.same ua7 _
    replace da5 := da5.same ua7 _
    replace da6 := da6.same ua7 _
    refine ⟨(show 11 ≤ sizeLine by decide), fun lA mA => ?_⟩
    obtain ⟨GA, eA, uA, -, xA⟩ := new_l mA (ds := ds2 one oth) (.cons .non (.cons (.int _) (.cons da0 (.cons (.str _) (.cons da1 (.cons da2 (.cons da3 (.cons da4 (.cons da5 (.cons da6 (.cons da7 .nil)))))))))))
    have dA : DTs GA _ (ds2 one oth) := DTs.same uA (ds2 one oth) (.cons .non (.cons (.int _) (.cons da0 (.cons (.str _) (.cons da1 (.cons da2 (.cons da3 (.cons da4 (.cons da5 (.cons da6 (.cons da7 .nil)))))))))))
    rw [eA]
    refine ⟨_, rfl, ?_⟩
    refine ⟨_, rfl, ?_⟩
    refine ⟨_, rfl, ?_⟩
    refine ⟨(show 2 ≤ sizeLine by decide), fun lb0 mb0 => ?_⟩
    obtain ⟨Gb0, eb0, ub0, db0, xb0⟩ := new_l mb0 (ds := [.int (-9223372036854775809), .int oth]) (.cons (.int _) (.cons (.int _) .nil))
    rw [eb0]
    replace dA := dA.same ub0 _
    replace xA := ub0 _ _ xA
    refine ⟨_, rfl, ?_⟩
    refine ⟨(show 1 ≤ sizeLine by decide), fun lb1 mb1 => ?_⟩
    obtain ⟨Gb1, eb1, ub1, db1, xb1⟩ := new_l mb1 (ds := [.int one]) (.cons (.int _) .nil)
    rw [eb1]
    replace dA := dA.same ub1 _
    replace db0 := db0.same ub1 _
    replace xA := ub1 _ _ xA
    refine ⟨_, rfl, ?_⟩
    refine ⟨(show 2 ≤ sizeLine by decide), fun lb2 mb2 => ?_⟩
    obtain ⟨Gb2, eb2, ub2, db2, xb2⟩ := new_l mb2 (ds := [.list [.int one], .int oth]) (.cons db1 (.cons (.int _) .nil))
    rw [eb2]
    replace dA := dA.same ub2 _
    replace db0 := db0.same ub2 _
    replace xA := ub2 _ _ xA
    refine ⟨_, rfl, ?_⟩
    refine ⟨(show 2 ≤ sizeLine by decide), fun lb3 mb3 => ?_⟩
    obtain ⟨Gb3, eb3, ub3, db3, xb3⟩ := new_l mb3 (ds := [.str "1", .int oth]) (.cons (.str _) (.cons (.int _) .nil))
    rw [eb3]
    replace dA := dA.same ub3 _
    replace db0 := db0.same ub3 _
    replace db2 := db2.same ub3 _
    replace xA := ub3 _ _ xA
    refine fun lb4 mb4 => ?_
    obtain ⟨Gb4, eb4, ub4, db4⟩ := new_d mb4
    rw [eb4]
    replace dA := dA.same ub4 _
    replace db0 := db0.same ub4 _
    replace db2 := db2.same ub4 _
    replace db3 := db3.same ub4 _
    replace xA := ub4 _ _ xA
    refine ⟨(show 4 ≤ sizeLine by decide), fun lb5 mb5 => ?_⟩
    obtain ⟨Gb5, eb5, ub5, db5, xb5⟩ := new_l mb5 (ds := ds2b one oth) (.cons db0 (.cons db2 (.cons db3 (.cons db4 .nil))))
    rw [eb5]
    replace dA := dA.same ub5 _
    replace xA := ub5 _ _ xA
    have dB : DTs Gb5 _ (ds2b one oth) := DTs.same ub5 (ds2b one oth) (.cons db0 (.cons db2 (.cons db3 (.cons db4 .nil))))
    refine ⟨lA, lb5, _, _, rfl, rfl, xA, xb5, (by show 11 + 4 ≤ sizeLine; decide), fun lC mC => ?_⟩
    obtain ⟨G, e, u, dg, dl⟩ := new_l mC (ds := ds2 one oth ++ ds2b one oth) (dA.append dB)
    have dd := DTs.same u _ (dA.append dB)
    rw [e]
    have sG : Same B0 G := (((((((((((((((ua0.trans ua1).trans ua2).trans ua3).trans ua4).trans ua5).trans ua6).trans ua7).trans uA).trans ub0).trans ub1).trans ub2).trans ub3).trans ub4).trans ub5).trans u)
    refine ⟨_, rfl, ⟨_, SqL.of dl⟩, for_list 
      (fun i σ H' => (∃ x4 : Option V, σ = [some (.ref p), some (.ref g), some (.int one), some (.int oth), x4, some (.str z), some (.ref lA), none, none]) ∧ Same G H')
      ⟨⟨_, rfl⟩, Same.refl _⟩ (fun i σ H' _ h => SqL.of (h.2 _ _ dl)) ?_ ?_⟩
    · rintro i x σ H' hx ⟨⟨x5, rfl⟩, s2⟩
      obtain ⟨d, md, dx⟩ := pick (dd.same s2 _) hx
      obtain ⟨w, ok⟩ := good2 i1 i2 d md
      have tx : TextOk d := ok.elim text3 .inr
      have po : PairOk (.str z) d := ok.elim (fun h => pair_ok (ok3z z mz) h) fun h => h ▸ pair_z z mz
      refine ⟨_, rfl, _, rfl, 1, .str z, x, x, .str z, d, some 2, rfl, .str _, dx, po, case_list shz (.inl rfl) (by decide) dx w, fun t l' H2 s3 ht hl => ?_⟩
      refine ⟨_, rfl, t, l', 2, x, d, rfl, by decide, ht, hl, dx.same s3 _, tx, fun H3 s4 => ?_⟩
      exact ⟨_, rfl, iteF ⟨⟨_, rfl⟩, (s2.trans s3).trans s4⟩⟩
    rintro σ B1 ⟨⟨x5, rfl⟩, s2⟩
    -- the right deed
    refine ⟨_, rfl, _, rfl, _, rfl, (show 2 ≤ sizeLine by decide), fun l4 m4 => ?_⟩
    obtain ⟨H4, e4, u4, d4, x44⟩ := new_l m4 (ds := [.int one, .int oth]) (.cons (.int _) (.cons (.int _) .nil))
    rw [e4]
    obtain ⟨r, dz⟩ := deeds7 n1 n2 z mz
    refine ⟨1, .str z, .ref l4, .non, .str z, .list [.int one, .int oth], none, rfl, .str _, d4, pair_ok (ok3z z mz) (.lst (by simp) ?_), fun H1 s1 => .inr ⟨rfl, .inr (.inr ⟨⟨z, l4, rfl, .inr ⟨_, _, r, s1 _ _ x44, dz, fun H' s => s⟩⟩, rfl, rfl⟩)⟩, fun t l' H5 s6 ht hl => ?_⟩
    · intro d hd
      simp only [List.mem_cons, List.not_mem_nil, or_false] at hd
      rcases hd with rfl | rfl
      · exact .int i1
      · exact .int i2
    have dt : DT H5 (.ref t) dR := .tup ht (.cons (.lst hl dt_fl) (.cons .non .nil))
    refine ⟨(show 1 ≤ sizeLine by decide), fun l6 m6 => ?_⟩
    refine ⟨_, _, _, rfl, rfl, upd_same, by decide, by decide, (by decide), fun l7 m7 => ?_⟩
    have u7 := (same_new (o := .lst [V.bl false]) m6).trans (same_new (o := .lst (List.replicate (Int.toNat 3) [V.bl false]).flatten) m7)
    have d7 : DT (upd (upd H5 l6 (.lst [V.bl false])) l7 (.lst (List.replicate (Int.toNat 3) [V.bl false]).flatten)) (.ref l7) (.list [.bool false, .bool false, .bool false]) := .lst upd_same (.cons (.bl _) (.cons (.bl _) (.cons (.bl _) .nil)))
    replace dt := dt.same u7 _
    generalize upd (upd H5 l6 (.lst [V.bl false])) l7 (.lst (List.replicate (Int.toNat 3) [V.bl false]).flatten) = H7 at u7 d7 dt ⊢
    refine ⟨(show 2 ≤ sizeLine by decide), fun l8 m8 => ?_⟩
    obtain ⟨H8, e8, u8, d8, -⟩ := new_t m8 (ds := [.list [.bool false, .bool false, .bool false], .none]) (.cons d7 (.cons .non .nil))
    rw [e8]
    refine ⟨dR, dR, (dt.same u8 _).dp dR_ok.1, d8.dp dR_ok.1, dR_ok.2.2, dR_ok.2.2, _, rfl, ?_⟩
    rw [dR_ok.2.1]
    refine iteF ?_
    exact ⟨⟨_, _, _, rfl⟩, (((((s0.trans sG).trans s2).trans u4).trans s6).trans u7).trans u8⟩
  rintro σ G0 ⟨⟨x4, x5, x6, rfl⟩, -⟩
  -- two flags
  refine ⟨(show 2 ≤ sizeLine by decide), fun lT mT => ?_⟩
  refine ⟨_, rfl, ⟨_, SqL.of upd_same⟩, for_list (xs := sg2.map V.str)
    (fun i σ H' => (∃ x4 x5 : Option V, σ = [some (.ref p), some (.ref g), some (.int one), some (.int oth), x4, x5, x6, none, none]) ∧ Same (upd G0 lT (.lst (sg2.map V.str))) H')
    ⟨⟨_, _, rfl⟩, Same.refl _⟩ (fun i σ H' _ h => SqL.of (h.2 _ _ upd_same)) ?_ ?_⟩
  · rintro i x σ B0 hx ⟨⟨x4, y5, rfl⟩, s0⟩
    obtain ⟨z, mz, rfl⟩ := pick_z hx
    have shz : Shape K dS z "flag" ((2 : Nat) : Int) "flag" := by
      simp only [sg2, List.mem_cons, List.not_mem_nil, or_false] at mz
      rcases mz with rfl | rfl
      · exact sh3 _ (by decide)
      · exact sh3 _ (by decide)
    refine ⟨(show 2 ≤ sizeLine by decide), fun lc0 mc0 => ?_⟩
    obtain ⟨Gc0, ec0, uc0, dc0, xc0⟩ := new_t mc0 (ds := [.bool true, .bool false]) (.cons (.bl _) (.cons (.bl _) .nil))
    rw [ec0]
    refine ⟨(show 0 ≤ sizeLine by decide), fun lc1 mc1 => ?_⟩
    obtain ⟨Gc1, ec1, uc1, dc1, xc1⟩ := new_l mc1 (ds := []) (.nil)
    rw [ec1]
    replace dc0 := dc0.same uc1 _
    refine ⟨(show 1 ≤ sizeLine by decide), fun lc2 mc2 => ?_⟩
    obtain ⟨Gc2, ec2, uc2, dc2, xc2⟩ := new_l mc2 (ds := [.bool true]) (.cons (.bl _) .nil)
    rw [ec2]
    replace dc0 := dc0.same uc2 _
    replace dc1 := dc1.same uc2 _
    refine ⟨(show 3 ≤ sizeLine by decide), fun lc3 mc3 => ?_⟩
    obtain ⟨Gc3, ec3, uc3, dc3, xc3⟩ := new_l mc3 (ds := [.bool true, .bool false, .bool true]) (.cons (.bl _) (.cons (.bl _) (.cons (.bl _) .nil)))
    rw [ec3]
    replace dc0 := dc0.same uc3 _
    replace dc1 := dc1.same uc3 _
    replace dc2 := dc2.same uc3 _
    refine ⟨(show 2 ≤ sizeLine by decide), fun lc4 mc4 => ?_⟩
    obtain ⟨Gc4, ec4, uc4, dc4, xc4⟩ := new_l mc4 (ds := [.bool true, .int 0]) (.cons (.bl _) (.cons (.int _) .nil))
    rw [ec4]
    replace dc0 := dc0.same uc4 _
    replace dc1 := dc1.same uc4 _
    replace dc2 := dc2.same uc4 _
    replace dc3 := dc3.same uc4 _
    refine ⟨(show 2 ≤ sizeLine by decide), fun lc5 mc5 => ?_⟩
    obtain ⟨Gc5, ec5, uc5, dc5, xc5⟩ := new_l mc5 (ds := [.int 1, .bool false]) (.cons (.int _) (.cons (.bl _) .nil))
    rw [ec5]
    replace dc0 := dc0.same uc5 _
    replace dc1 := dc1.same uc5 _
    replace dc2 := dc2.same uc5 _
    replace dc3 := dc3.same uc5 _
    replace dc4 := dc4.same uc5 _
    refine ⟨(show 2 ≤ sizeLine by decide), fun lc6 mc6 => ?_⟩
    obtain ⟨Gc6, ec6, uc6, dc6, xc6⟩ := new_l mc6 (ds := [.none, .bool true]) (.cons .non (.cons (.bl _) .nil))
    rw [ec6]
    replace dc0 := dc0.same uc6 _
    replace dc1 := dc1.same uc6 _
    replace dc2 := dc2.same uc6 _
    replace dc3 := dc3.same uc6 _
    replace dc4 := dc4.same uc6 _
    replace dc5 := dc5.same uc6 _
    refine ⟨(show 9 ≤ sizeLine by decide), fun l m => ?_⟩
    obtain ⟨G, e, u, dg, dl⟩ := new_l m (ds := ds3) (.cons .non (.cons (.bl _) (.cons dc0 (.cons dc1 (.cons dc2 (.cons dc3 (.cons dc4 (.cons dc5 (.cons dc6 .nil)))))))))
    have dd : DTs G _ ds3 := DTs.same u ds3 (.cons .non (.cons (.bl _) (.cons dc0 (.cons dc1 (.cons dc2 (.cons dc3 (.cons dc4 (.cons dc5 (.cons dc6 .nil)))))))))
    rw [e]
    have sG : Same B0 G := ((((((uc0.trans uc1).trans uc2).trans uc3).trans uc4).trans uc5).trans uc6).trans u
    refine ⟨_, rfl, ⟨_, SqL.of dl⟩, for_list
      (fun i σ H' => (∃ x4 : Option V, σ = [some (.ref p), some (.ref g), some (.int one), some (.int oth), x4, some (.str z), x6, none, none]) ∧ Same G H')
      ⟨⟨_, rfl⟩, Same.refl _⟩ (fun i σ H' _ h => SqL.of (h.2 _ _ dl)) ?_ ?_⟩
    · rintro i x σ H' hx ⟨⟨x5, rfl⟩, s2⟩
      obtain ⟨d, md, dx⟩ := pick (dd.same s2 _) hx
      obtain ⟨w, ok⟩ := good3 d md
      refine ⟨_, rfl, _, rfl, 1, .str z, x, x, .str z, d, some 2, rfl, .str _, dx, pair_ok (ok3y z mz) ok, case_list shz (.inr rfl) (by decide) dx w, fun t l' H2 s3 ht hl => ?_⟩
      refine ⟨_, rfl, t, l', 2, x, d, rfl, by decide, ht, hl, dx.same s3 _, text3 ok, fun H3 s4 => ?_⟩
      exact ⟨_, rfl, iteF ⟨⟨_, rfl⟩, (s2.trans s3).trans s4⟩⟩
    rintro σ B1 ⟨⟨x5, rfl⟩, s2⟩
    exact ⟨⟨_, _, rfl⟩, (s0.trans sG).trans s2⟩
  rintro σ G0 ⟨⟨x4, x5, rfl⟩, -⟩
  -- one flag
  refine ⟨(show 1 ≤ sizeLine by decide), fun lf0 mf0 => ?_⟩
  obtain ⟨Gf0, ef0, uf0, df0, xf0⟩ := new_t mf0 (ds := [.bool true]) (.cons (.bl _) .nil)
  rw [ef0]
  refine ⟨(show 0 ≤ sizeLine by decide), fun lf1 mf1 => ?_⟩
  obtain ⟨Gf1, ef1, uf1, df1, xf1⟩ := new_l mf1 (ds := []) (.nil)
  rw [ef1]
  replace df0 := df0.same uf1 _
  refine ⟨(show 2 ≤ sizeLine by decide), fun lf2 mf2 => ?_⟩
  obtain ⟨Gf2, ef2, uf2, df2, xf2⟩ := new_l mf2 (ds := [.bool true, .bool true]) (.cons (.bl _) (.cons (.bl _) .nil))
  rw [ef2]
  replace df0 := df0.same uf2 _
  replace df1 := df1.same uf2 _
  refine ⟨(show 1 ≤ sizeLine by decide), fun lf3 mf3 => ?_⟩
  obtain ⟨Gf3, ef3, uf3, df3, xf3⟩ := new_l mf3 (ds := [.int 0]) (.cons (.int _) .nil)
  rw [ef3]
  replace df0 := df0.same uf3 _
  replace df1 := df1.same uf3 _
  replace df2 := df2.same uf3 _
  refine ⟨(show 1 ≤ sizeLine by decide), fun lf4 mf4 => ?_⟩
  obtain ⟨Gf4, ef4, uf4, df4, xf4⟩ := new_l mf4 (ds := [.int 1]) (.cons (.int _) .nil)
  rw [ef4]
  replace df0 := df0.same uf4 _
  replace df1 := df1.same uf4 _
  replace df2 := df2.same uf4 _
  replace df3 := df3.same uf4 _
  refine ⟨(show 1 ≤ sizeLine by decide), fun lf5 mf5 => ?_⟩
  obtain ⟨Gf5, ef5, uf5, df5, xf5⟩ := new_l mf5 (ds := [.none]) (.cons .non .nil)
  rw [ef5]
  replace df0 := df0.same uf5 _
  replace df1 := df1.same uf5 _
  replace df2 := df2.same uf5 _
  replace df3 := df3.same uf5 _
  replace df4 := df4.same uf5 _
  refine ⟨(show 8 ≤ sizeLine by decide), fun l m => ?_⟩
  obtain ⟨G, e, u, dg, dl⟩ := new_l m (ds := ds4) (.cons .non (.cons (.bl _) (.cons df0 (.cons df1 (.cons df2 (.cons df3 (.cons df4 (.cons df5 .nil))))))))
  have dd : DTs G _ ds4 := DTs.same u ds4 (.cons .non (.cons (.bl _) (.cons df0 (.cons df1 (.cons df2 (.cons df3 (.cons df4 (.cons df5 .nil))))))))
  rw [e]
  have shN : Shape K dS "not" "flag" ((1 : Nat) : Int) "flag" := sh4
  have okN : Ok3 3 (.str "not") := ok3_of 3 _ (by decide +kernel) (by simp [intsOf])
  refine ⟨_, rfl, ⟨_, SqL.of dl⟩, for_list
    (fun i σ H' => (∃ x4 : Option V, σ = [some (.ref p), some (.ref g), some (.int one), some (.int oth), x4, x5, x6, none, none]) ∧ Same G H')
    ⟨⟨_, rfl⟩, Same.refl _⟩ (fun i σ H' _ h => SqL.of (h.2 _ _ dl)) ?_ ?_⟩
  · rintro i x σ H' hx ⟨⟨x5, rfl⟩, s2⟩
    obtain ⟨d, md, dx⟩ := pick (dd.same s2 _) hx
    obtain ⟨w, ok⟩ := good4 d md
    refine ⟨_, rfl, 1, .str "not", x, x, .str "not", d, some 2, rfl, .str _, dx, pair_ok okN ok, case_list shN (.inr rfl) (by decide) dx w, fun t l' H2 s3 ht hl => ?_⟩
    refine ⟨_, rfl, t, l', 2, x, d, rfl, by decide, ht, hl, dx.same s3 _, text3 ok, fun H3 s4 => ?_⟩
    exact ⟨_, rfl, iteF ⟨⟨_, rfl⟩, (s2.trans s3).trans s4⟩⟩
  rintro σ G0 ⟨⟨x4, rfl⟩, -⟩
  -- the thing itself
  refine ⟨(show 1 ≤ sizeLine by decide), fun l1 m1 => ?_⟩
  obtain ⟨G1, e1, u1, d1, y1⟩ := new_l m1 (ds := [.none]) (.cons .non .nil)
  rw [e1]
  have okP : Ok3 3 (.str "plus") := ok3z _ (by decide)
  have shP : Shape K dS "plus" "num" ((2 : Nat) : Int) "num" := sh1 _ (by decide)
  refine ⟨_, rfl, 1, .str "plus", .ref l1, .ref l1, .str "plus", .list [.none], some 2, rfl, .str _, d1, pair_ok okP (ok3_of 3 _ (by decide +kernel) (by simp [intsOf, intsOfs])), case_list shP (.inl rfl) (by decide) d1 (by rfl), fun t l2 H2 s2 ht hl => ?_⟩
  have y2 := s2 _ _ y1
  have ntl : t ≠ l1 := ne_of ht y2 (by intro z; cases z)
  refine ⟨_, rfl, .inl ⟨rfl, _, SqL.of y2⟩, l1, _, _, rfl, rfl, y2, (show 1 < sizeLine by decide), ?_⟩
  have ht3 : upd H2 l1 (.lst ([V.non] ++ [V.int 7])) t = some (.tup [.ref l2, .ref l1]) := (upd_ne ntl).trans ht
  have d3 : DT (upd H2 l1 (.lst ([V.non] ++ [V.int 7]))) (.ref l1) dT2 := .lst upd_same (.cons .non (.cons (.int _) .nil))
  generalize upd H2 l1 (.lst ([V.non] ++ [V.int 7])) = H3 at ht3 d3 ⊢
  refine ⟨_, rfl, t, _, 1, .ref l1, rfl, rfl, SqT.of ht3, rfl, ?_⟩
  refine ⟨(show 2 ≤ sizeLine by decide), fun l4 m4 => ?_⟩
  obtain ⟨H4, e4, u4, d4, -⟩ := new_l m4 (ds := [.none, .int 7]) (.cons .non (.cons (.int _) .nil))
  rw [e4]
  refine ⟨dT2, dT2, (d3.same u4 _).dp dT2_ok.1, d4.dp dT2_ok.1, dT2_ok.2.2, dT2_ok.2.2, _, rfl, ?_⟩
  rw [dT2_ok.2.1]
  refine iteT ?_
  -- a right flag
  refine ⟨(show 1 ≤ sizeLine by decide), fun l5 m5 => ?_⟩
  obtain ⟨H5, e5, u5, d5, y5⟩ := new_l m5 (ds := [.bool false]) (.cons (.bl _) .nil)
  rw [e5]
  refine ⟨1, .str "not", .ref l5, .non, .str "not", .list [.bool false], none, rfl, .str _, d5, pair_ok okN (ok3_of 3 _ (by decide +kernel) (by simp [intsOf, intsOfs])), fun H1 s1 => .inr ⟨rfl, .inr (.inr ⟨⟨"not", l5, rfl, .inl ⟨rfl, false, s1 _ _ y5, fun H' s => s⟩⟩, rfl, rfl⟩)⟩, fun t6 l6 H6 s6 ht6 hl6 => ?_⟩
  have dt : DT H6 (.ref t6) dR := .tup ht6 (.cons (.lst hl6 dt_fl) (.cons .non .nil))
  refine ⟨(show 1 ≤ sizeLine by decide), fun l6 m6 => ?_⟩
  refine ⟨_, _, _, rfl, rfl, upd_same, by decide, by decide, (by decide), fun l7 m7 => ?_⟩
  have u7 := (same_new (o := .lst [V.bl false]) m6).trans (same_new (o := .lst (List.replicate (Int.toNat 3) [V.bl false]).flatten) m7)
  have d7 : DT (upd (upd H6 l6 (.lst [V.bl false])) l7 (.lst (List.replicate (Int.toNat 3) [V.bl false]).flatten)) (.ref l7) (.list [.bool false, .bool false, .bool false]) := .lst upd_same (.cons (.bl _) (.cons (.bl _) (.cons (.bl _) .nil)))
  replace dt := dt.same u7 _
  generalize upd (upd H6 l6 (.lst [V.bl false])) l7 (.lst (List.replicate (Int.toNat 3) [V.bl false]).flatten) = H7 at u7 d7 dt ⊢
  refine ⟨(show 2 ≤ sizeLine by decide), fun l8 m8 => ?_⟩
  obtain ⟨H8, e8, u8, d8, -⟩ := new_t m8 (ds := [.list [.bool false, .bool false, .bool false], .none]) (.cons d7 (.cons .non .nil))
  rw [e8]
  clear e8 m8 m7 m6
  refine ⟨dR, dR, (dt.same u8 _).dp dR_ok.1, d8.dp dR_ok.1, dR_ok.2.2, dR_ok.2.2, _, rfl, ?_⟩
  rw [dR_ok.2.1]
  refine iteT ?_
  -- a great number
  refine ⟨_, _, rfl, rfl, ⟨by decide, by decide +kernel⟩, ?_⟩
  have okG : IntOk (10 ^ Int.toNat 29) := ⟨by decide +kernel, by decide +kernel⟩
  refine ⟨0, .int (10 ^ Int.toNat 29), .non, .non, .int (10 ^ Int.toNat 29), .none, none, rfl, .int _, .non, pair_ok (.int okG) .non, fun H1 s1 => .inl ⟨rfl, .inl ⟨_, rfl, rfl, rfl⟩⟩, fun t9 l9 H6 s6 ht6 hl6 => ?_⟩
  have dt : DT H6 (.ref t9) dR := .tup ht6 (.cons (.lst hl6 dt_fl) (.cons .non .nil))
  refine ⟨(show 1 ≤ sizeLine by decide), fun l6 m6 => ?_⟩
  refine ⟨_, _, _, rfl, rfl, upd_same, by decide, by decide, (by decide), fun l7 m7 => ?_⟩
  have u7 := (same_new (o := .lst [V.bl false]) m6).trans (same_new (o := .lst (List.replicate (Int.toNat 3) [V.bl false]).flatten) m7)
  have d7 : DT (upd (upd H6 l6 (.lst [V.bl false])) l7 (.lst (List.replicate (Int.toNat 3) [V.bl false]).flatten)) (.ref l7) (.list [.bool false, .bool false, .bool false]) := .lst upd_same (.cons (.bl _) (.cons (.bl _) (.cons (.bl _) .nil)))
  replace dt := dt.same u7 _
  generalize upd (upd H6 l6 (.lst [V.bl false])) l7 (.lst (List.replicate (Int.toNat 3) [V.bl false]).flatten) = H7 at u7 d7 dt ⊢
  refine ⟨(show 2 ≤ sizeLine by decide), fun l8 m8 => ?_⟩
  obtain ⟨H8, e8, u8, d8, -⟩ := new_t m8 (ds := [.list [.bool false, .bool false, .bool false], .none]) (.cons d7 (.cons .non .nil))
  rw [e8]
  clear e8 m8 m7 m6
  refine ⟨dR, dR, (dt.same u8 _).dp dR_ok.1, d8.dp dR_ok.1, dR_ok.2.2, dR_ok.2.2, ?_⟩
  rw [dR_ok.2.1]
  exact q _

theorem ends {l : PySem.W.OpenLaw} {fa : Addr} (hfa : mg "law" = some (.ref fa)) (T : TLaw l.prog K w mg CN CL CD CB) (dl : Has K mg "law" s_law ["_law_script"]) :
    ∃ fd : FuncData, (∀ (s : Shared) (u : Value), BindsTo s fd ⟨[u], []⟩ [("_law_script", u)]) ∧ ∀ base : Heap, K.In base → base.Ns mainGlobals mg → FnG l.prog w K mg base CX0 8 fa fd ["_law_script"] (sp_law K) := by
  obtain ⟨f, fd, F, hm, _⟩ := dl
  obtain rfl : f = fa := Value.ref.inj (Option.some.inj (hm.symm.trans hfa))
  refine ⟨fd, ?_, fun base _ _ => c_law T F⟩
  obtain ⟨oc, od, kV, doc, pm, an, cdv, ct, osl, rfl, lk, hcd⟩ := F.ex
  exact fun s u => .of_eq rfl
end
/-! ### facts of the written part -/
theorem shape_mk {K : PySem.W.Frag} {d a : Addr} {z kind gives : Str} {many : Int} {od : Option Addr} {its : Array Value} {n : Nat} {sl : Array (Option Value)} (e : PySem.W.nsIn K d z = some (some (.ref a)))
    (l : K.lookup a = some ⟨.type "tuple", od, .seq its n, sl⟩) (sz : its.size ≤ sizeLine) (v : Vals [.str kind, .int many, .str gives] its.toList) : Shape K d z kind many gives := ⟨a, e, ⟨_, its, n, l, rfl, rfl, sz, v⟩⟩
theorem work_mk {K : PySem.W.Frag} {mg : Str → Option Value} {h : Heap} {d f : Addr} {z x : Str} (X : K.In h) (G : h.Ns mainGlobals mg) (a : PySem.W.nsIn K mainGlobals x = some (some (.ref f))) (e : PySem.W.nsIn K d z = some (some (.ref f))) :
    ∃ f : Addr, mg x = some (.ref f) ∧ PySem.W.nsIn K d z = some (some (.ref f)) := ⟨f, PySem.W.mg_of X G a, e⟩
theorem num_mk {K : PySem.W.Frag} {mg : Str → Option Value} {h : Heap} {x : Str} {i : Int} {t : Tok} (X : K.In h) (G : h.Ns mainGlobals mg) (e : PySem.W.nsIn K mainGlobals x = some (some (.int i t))) : ∃ t : Tok, mg x = some (.int i t) := ⟨t, PySem.W.mg_of X G e⟩
theorem kit_ref {K : PySem.W.Frag} {t : Value} {C : Addr} {b : Bool} (ne : (t == Value.ref C) = false) (hdct : PySem.W.hasDictIn K C = true) (ht : PySem.W.typeIn K (.ref C) = some (.type "type")) (h : PySem.W.subIn K t (.ref C) = some b) : PySem.W.kitOne K t (.ref C) = some b := by
  obtain ⟨cd, hc, _⟩ := PySem.W.any_some hdct
  have e2 : ((PySem.W.clsIn K C).isSome && PySem.W.typeIn K (.ref C) == some (.type "type")) = true := by rw [hc, ht] <;> rfl
  show (if (t == Value.ref C) = true then some true else (if ((PySem.W.clsIn K C).isSome && PySem.W.typeIn K (.ref C) == some (.type "type")) = true then PySem.W.subIn K t (.ref C) else none)) = some b
  rw [if_neg (by rw [ne]; decide), if_pos e2]
  exact h
theorem kit_self {K : PySem.W.Frag} {t : Value} (e : (t == t) = true) : PySem.W.kitOne K t t = some true := by
  show (if (t == t) = true then some true else PySem.W.kitCls K t t) = some true
  rw [if_pos e]
theorem bill_mk {P : Program} {K : PySem.W.Frag} {mg : Str → Option Value} {h : Heap} {x : Str} (X : K.In h) (G : h.Ns mainGlobals mg) {T C fI cdaI ccI DB fB cdaB ccB N : Addr} {nm q qI qB nI nB fiI fiB : Str} {bs bm sub : List Value} {hdct ab : Bool} {sn : List Str} {col : Option Bool} {dd odI anI odB anB cdI cdB clI clB : Option Addr}
    {k0 k1 k2 k3 k5 : Option Value} {kVI docI pmI ctI dVB kVB docB pmB ctB cI cB uI uB : Value} {oslI oslB csI csB slI slB : Array (Option Value)} {vI vB : Array Value} {tI tB : Tok} {cT : Value} {dT : Option Addr} {itsT : Array Value} {nT : Nat} {slT : Array (Option Value)} {cdC cdD : ClassData} {parI parB : Arguments} {p0 p1 p2 p3 p4 p5 p6 p7 p8 r0 r1 r2 r3 r4 : Pos}
    (a : PySem.W.nsIn K mainGlobals x = some (some (.ref C)))
    (cls : K.lookup C = some (excClassObj nm q C N bs bm hdct sn sub ab col dd k0 k1 k2 k3 k5 "ValueError.__new__")) (ve : PySem.HandSPX.refsVE bm = true)
    (iC : PySem.W.findIn K (.ref C) "__init__" = some (some (.ref fI))) (tf : PySem.W.typeIn K (.ref fI) = some (.type "function"))
    (lI : K.lookup fI = some ⟨.type "function", odI, .func (PySem.W.ksFn nI qI parI [bSup p0 p1 p2 p3 p4, bVal p5 p6 p7 p8] scI (.ref T) kVI docI pmI anI (.ref cdaI) ctI ccI), oslI⟩) (coI : PySem.W.codeIn K (.ref cdaI) qI = true)
    (lcI : K.lookup cdaI = some ⟨cI, cdI, .fields vI, csI⟩) (vI2 : vI[2]? = some (.str fiI tI)) (feI : ((P.main.file : Str) == fiI) = true) (ceI : K.lookup ccI = some ⟨uI, clI, .cell (some (.ref C)), slI⟩) (clC : PySem.W.clsIn K C = some cdC)
    (iB : PySem.W.ks_superIn K C C "__init__" = some (some (.ref fB)))
    (lB : K.lookup fB = some ⟨.type "function", odB, .func (PySem.W.ksFn nB qB parB [bSup r0 r1 r2 r3 r4] scB dVB kVB docB pmB anB (.ref cdaB) ctB ccB), oslB⟩) (coB : PySem.W.codeIn K (.ref cdaB) qB = true)
    (lcB : K.lookup cdaB = some ⟨cB, cdB, .fields vB, csB⟩) (vB2 : vB[2]? = some (.str fiB tB)) (feB : ((P.main.file : Str) == fiB) = true) (ceB : K.lookup ccB = some ⟨uB, clB, .cell (some (.ref DB)), slB⟩) (clD : PySem.W.clsIn K DB = some cdD)
    (tp : PySem.W.nsIn K cStatics "thirdparty.any" = some none) (sB : PySem.W.mroIn K C (.ref DB) = some true) (sC : PySem.W.mroIn K C (.ref C) = some true) (iV : PySem.W.ks_superIn K C DB "__init__" = some (some (.builtin "ValueError.__init__"))) (sV : PySem.W.subIn K (.ref C) (.type "ValueError") = some true)
    (fn : PySem.W.fnIn K fB = true) (mv : PySem.HandSPX.refsVE cdC.mro = true) (md : cdC.hasDict = true) (sa : PySem.W.findIn K (.ref C) "__setattr__" = some (some (.builtin "object.__setattr__"))) (nV : PySem.W.findIn K (.ref C) "value" = some none)
    (ln : Line p0 p1 p2 p3) (ln2 : Line r0 r1 r2 r3) (hI : (parI.posonlyargs ++ parI.args).head?.map (·.arg) = some ("self" : Str)) (hB : (parB.posonlyargs ++ parB.args).head?.map (·.arg) = some ("self" : Str))
    (lT : K.lookup T = some ⟨cT, dT, .seq itsT nT, slT⟩) (bI : ∀ (a : Addr) (v : Value), ∃ k, bindArgs (PySem.W.ksFn nI qI parI [bSup p0 p1 p2 p3 p4, bVal p5 p6 p7 p8] scI (.ref T) kVI docI pmI anI (.ref cdaI) ctI ccI) ⟨[.ref a, v], []⟩ = seqItems? (.ref T) >>= k ∧ k (some itsT) = pure [(("self" : Str), Value.ref a), (("value" : Str), v)])
    (bB : ∀ a : Addr, bindArgs (PySem.W.ksFn nB qB parB [bSup r0 r1 r2 r3 r4] scB dVB kVB docB pmB anB (.ref cdaB) ctB ccB) ⟨[.ref a], []⟩ = pure [(("self" : Str), Value.ref a)])
    (ns : NoSup P) (su : PySem.W.nsIn K mainGlobals "super" = some none) (kC : PySem.W.keepIn K (.ref C) = true) (exC : PySem.W.subIn K (.ref C) (.type "BaseException") = some true) (tyC : PySem.W.typeIn K (.ref C) = some (.type "type")) : BillX P K mg C x where
  ex := ⟨fI, cdaI, ccI, DB, fB, cdaB, ccB, qI, qB, parI, parB, _, _, p0, p1, p2, p3, p4, p5, p6, p7, p8, r0, r1, r2, r3, r4,
    ⟨⟨nI, .ref T, kVI, docI, pmI, ctI, odI, anI, oslI, rfl, lI⟩, coI, ⟨cI, cdI, vI, csI, fiI, tI, lcI, vI2, feI⟩, ⟨uI, clI, slI, ceI⟩, ⟨cdC, clC⟩⟩,
    ⟨⟨nB, dVB, kVB, docB, pmB, ctB, odB, anB, oslB, rfl, lB⟩, coB, ⟨cB, cdB, vB, csB, fiB, tB, lcB, vB2, feB⟩, ⟨uB, clB, slB, ceB⟩, ⟨cdD, clD⟩⟩,
    ⟨⟨⟨nm, q, N, bs, bm, hdct, sn, sub, ab, col, dd, k0, k1, k2, k3, k5, cls⟩, ⟨cdC, clC⟩, tp, sB, iV, sV⟩, iB, sC, fn, ⟨cdC, clC, mv, md⟩, sa, nV⟩, ln, ln2, hI, hB, fun a v s hs => (bI a v).elim fun k h => BindsTo.of_defaults rfl (hs _ _ lT) rfl h.1 h.2, bB, iC, tf⟩
  cls := ⟨nm, q, N, bs, bm, hdct, sn, sub, ab, col, dd, k0, k1, k2, k3, k5, cls, ve⟩
  ns := ns
  sup := PySem.W.mg_none_of X G su
  gC := PySem.W.mg_of X G a
  kC := kC
  exC := exC
  tyC := tyC
end Cb
set_option Elab.async false
set_option maxRecDepth 100000
open PySem PySem.W PyProof.Rows
set_option maxHeartbeats 0 in
theorem PySem.Challenge.cw_cellbills_k03_deeds_refused_holds : PySem.Challenge.rw_cellbills_k03_deeds_refused.Holds := by
  w_on; o_law; k_head; (case hw => w_witness2)
  k_fill
  refine Cb.walk_g (l := PySem.Challenge.rw_cellbills_k03_deeds_refused) (n := 63) (k := 8) (x := "_law_script") (sp := fun K => Cb.sp_law K) rfl (by decide) rfl ⟨rfl, by decide, by decide⟩ (fun w h Y => PySem.W.kIn_of Y) ?F ?pr
  case pr => exact fun K H a ns _ _ hS => ⟨a, ns, rfl, hS, fun _ => rfl⟩
  case F =>
    intro w mg fa h KX G hmg
    refine' Cb.ends hmg ?T ?dl
    case dl =>
      refine' Cb.has KX G ?a ?l ?c ?k ?b
      (case a => k_is); (case l => k_is); (case c => k_is); (case k => k_is); (case b => exact fun _ _ _ _ _ _ us hl => match us, hl with | [_], _ => rfl)
    case T =>
      refine' ⟨?tg, ?tn, ?te, ?e1, ?e2, ?e3⟩
      case e1 =>
        refine' Cb.has KX G ?a ?l ?c ?k ?b
        (case a => k_is); (case l => k_is); (case c => k_is); (case k => k_is); (case b => exact fun _ _ _ _ _ _ us hl => match us, hl with | [_, _, _], _ => rfl)
      case e2 =>
        refine' Cb.has KX G ?a ?l ?c ?k ?b
        (case a => k_is); (case l => k_is); (case c => k_is); (case k => k_is); (case b => exact fun _ _ _ _ _ _ us hl => match us, hl with | [_, _, _], _ => rfl)
      case e3 => refine' PySem.W.mg_none_of KX G ?z; (case z => k_is)
      case te =>
        refine' ⟨?bN, ?bL, ?bD, ?gB, ?exm, ?ec, ?own, ?other, ?non⟩
        case bN =>
          refine' Cb.bill_mk KX G ?a ?cls ?ve ?iC ?tf ?lI ?coI ?lcI ?vI2 ?feI ?ceI ?clC ?iB ?lB ?coB ?lcB ?vB2 ?feB ?ceB ?clD ?tp ?sB ?sC ?iV ?sV ?fn ?mv ?md ?sa ?nV ?ln ?ln2 ?hI ?hB ?lT ?bI ?bB ?ns ?su ?kC ?exC ?tyC
          case a => k_is
          case cls => k_is
          case ve => decide +kernel
          case iC => k_is
          case tf => k_is
          case lI => k_is
          case coI => k_is
          case lcI => k_is
          case vI2 => exact rfl
          case feI => decide +kernel
          case ceI => k_is
          case clC => k_is
          case iB => ks_is
          case lB => k_is
          case coB => k_is
          case lcB => k_is
          case vB2 => exact rfl
          case feB => decide +kernel
          case ceB => k_is
          case clD => k_is
          case tp => k_is
          case sB => k_is
          case sC => k_is
          case iV => ks_is
          case sV => k_is
          case fn => k_is
          case mv => decide +kernel
          case md => exact rfl
          case sa => k_is
          case nV => k_is
          case ln => exact fun _ => rfl
          case ln2 => exact fun _ => rfl
          case hI => exact rfl
          case hB => exact rfl
          case lT => k_is
          case bI => exact fun _ _ => ⟨_, rfl, rfl⟩
          case bB => exact fun _ => rfl
          case ns => show _ = _; decide +kernel
          case su => k_is
          case kC => k_is
          case exC => k_is
          case tyC => k_is
        case bL =>
          refine' Cb.bill_mk KX G ?a ?cls ?ve ?iC ?tf ?lI ?coI ?lcI ?vI2 ?feI ?ceI ?clC ?iB ?lB ?coB ?lcB ?vB2 ?feB ?ceB ?clD ?tp ?sB ?sC ?iV ?sV ?fn ?mv ?md ?sa ?nV ?ln ?ln2 ?hI ?hB ?lT ?bI ?bB ?ns ?su ?kC ?exC ?tyC
          case a => k_is
          case cls => k_is
          case ve => decide +kernel
          case iC => k_is
          case tf => k_is
          case lI => k_is
          case coI => k_is
          case lcI => k_is
          case vI2 => exact rfl
          case feI => decide +kernel
          case ceI => k_is
          case clC => k_is
          case iB => ks_is
          case lB => k_is
          case coB => k_is
          case lcB => k_is
          case vB2 => exact rfl
          case feB => decide +kernel
          case ceB => k_is
          case clD => k_is
          case tp => k_is
          case sB => k_is
          case sC => k_is
          case iV => ks_is
          case sV => k_is
          case fn => k_is
          case mv => decide +kernel
          case md => exact rfl
          case sa => k_is
          case nV => k_is
          case ln => exact fun _ => rfl
          case ln2 => exact fun _ => rfl
          case hI => exact rfl
          case hB => exact rfl
          case lT => k_is
          case bI => exact fun _ _ => ⟨_, rfl, rfl⟩
          case bB => exact fun _ => rfl
          case ns => show _ = _; decide +kernel
          case su => k_is
          case kC => k_is
          case exC => k_is
          case tyC => k_is
        case bD =>
          refine' Cb.bill_mk KX G ?a ?cls ?ve ?iC ?tf ?lI ?coI ?lcI ?vI2 ?feI ?ceI ?clC ?iB ?lB ?coB ?lcB ?vB2 ?feB ?ceB ?clD ?tp ?sB ?sC ?iV ?sV ?fn ?mv ?md ?sa ?nV ?ln ?ln2 ?hI ?hB ?lT ?bI ?bB ?ns ?su ?kC ?exC ?tyC
          case a => k_is
          case cls => k_is
          case ve => decide +kernel
          case iC => k_is
          case tf => k_is
          case lI => k_is
          case coI => k_is
          case lcI => k_is
          case vI2 => exact rfl
          case feI => decide +kernel
          case ceI => k_is
          case clC => k_is
          case iB => ks_is
          case lB => k_is
          case coB => k_is
          case lcB => k_is
          case vB2 => exact rfl
          case feB => decide +kernel
          case ceB => k_is
          case clD => k_is
          case tp => k_is
          case sB => k_is
          case sC => k_is
          case iV => ks_is
          case sV => k_is
          case fn => k_is
          case mv => decide +kernel
          case md => exact rfl
          case sa => k_is
          case nV => k_is
          case ln => exact fun _ => rfl
          case ln2 => exact fun _ => rfl
          case hI => exact rfl
          case hB => exact rfl
          case lT => k_is
          case bI => exact fun _ _ => ⟨_, rfl, rfl⟩
          case bB => exact fun _ => rfl
          case ns => show _ = _; decide +kernel
          case su => k_is
          case kC => k_is
          case exC => k_is
          case tyC => k_is
        case gB => refine' PySem.W.mg_of KX G ?z; (case z => k_is)
        case exm =>
          intro C hC
          rcases List.mem_cons.mp hC with rfl | hC
          · (refine' PySem.W.exm_ref ?a ?b ?c ?d; (case a => k_is); (case b => k_is); (case c => k_is); (case d => k_is))
          rcases List.mem_cons.mp hC with rfl | hC
          · (refine' PySem.W.exm_ref ?a ?b ?c ?d; (case a => k_is); (case b => k_is); (case c => k_is); (case d => k_is))
          rcases List.mem_cons.mp hC with rfl | hC
          · (refine' PySem.W.exm_ref ?a ?b ?c ?d; (case a => k_is); (case b => k_is); (case c => k_is); (case d => k_is))
          cases hC
        case ec =>
          intro C hC
          rcases List.mem_cons.mp hC with rfl | hC
          · (refine' ⟨⟨?a1, ?a2, ?a3, ?a4, ?a5, ?a6, ?a7, ?a8⟩, ⟨?b1, ?b2, ?b3, ?b4⟩, ?c1⟩; (case a1 => k_is); (case a2 => k_is); (case a3 => k_is); (case a4 => k_is); (case a5 => k_is); (case a6 => k_is); (case a7 => k_is); (case a8 => k_is); (case b1 => k_is); (case b2 => k_is); (case b3 => k_is); (case b4 => k_is); (case c1 => k_is))
          rcases List.mem_cons.mp hC with rfl | hC
          · (refine' ⟨⟨?a1, ?a2, ?a3, ?a4, ?a5, ?a6, ?a7, ?a8⟩, ⟨?b1, ?b2, ?b3, ?b4⟩, ?c1⟩; (case a1 => k_is); (case a2 => k_is); (case a3 => k_is); (case a4 => k_is); (case a5 => k_is); (case a6 => k_is); (case a7 => k_is); (case a8 => k_is); (case b1 => k_is); (case b2 => k_is); (case b3 => k_is); (case b4 => k_is); (case c1 => k_is))
          rcases List.mem_cons.mp hC with rfl | hC
          · (refine' ⟨⟨?a1, ?a2, ?a3, ?a4, ?a5, ?a6, ?a7, ?a8⟩, ⟨?b1, ?b2, ?b3, ?b4⟩, ?c1⟩; (case a1 => k_is); (case a2 => k_is); (case a3 => k_is); (case a4 => k_is); (case a5 => k_is); (case a6 => k_is); (case a7 => k_is); (case a8 => k_is); (case b1 => k_is); (case b2 => k_is); (case b3 => k_is); (case b4 => k_is); (case c1 => k_is))
          cases hC
        case own =>
          intro C hC
          rcases List.mem_cons.mp hC with rfl | hC
          · exact Cb.kit_self rfl
          rcases List.mem_cons.mp hC with rfl | hC
          · exact Cb.kit_self rfl
          rcases List.mem_cons.mp hC with rfl | hC
          · exact Cb.kit_self rfl
          cases hC
        case other =>
          refine' ⟨?o1, ?o2, ?o3, ?o4, ?o5, ?o6⟩
          case o1 => (refine' Cb.kit_ref ?a ?b ?c ?d; (case a => rfl); (case b => k_is); (case c => k_is); (case d => k_is))
          case o2 => (refine' Cb.kit_ref ?a ?b ?c ?d; (case a => rfl); (case b => k_is); (case c => k_is); (case d => k_is))
          case o3 => (refine' Cb.kit_ref ?a ?b ?c ?d; (case a => rfl); (case b => k_is); (case c => k_is); (case d => k_is))
          case o4 => (refine' Cb.kit_ref ?a ?b ?c ?d; (case a => rfl); (case b => k_is); (case c => k_is); (case d => k_is))
          case o5 => (refine' Cb.kit_ref ?a ?b ?c ?d; (case a => rfl); (case b => k_is); (case c => k_is); (case d => k_is))
          case o6 => (refine' Cb.kit_ref ?a ?b ?c ?d; (case a => rfl); (case b => k_is); (case c => k_is); (case d => k_is))
        case non =>
          intro C hC
          rcases List.mem_cons.mp hC with rfl | hC
          · (refine' Cb.kit_ref ?a ?b ?c ?d; (case a => rfl); (case b => k_is); (case c => k_is); (case d => k_is))
          rcases List.mem_cons.mp hC with rfl | hC
          · (refine' Cb.kit_ref ?a ?b ?c ?d; (case a => rfl); (case b => k_is); (case c => k_is); (case d => k_is))
          rcases List.mem_cons.mp hC with rfl | hC
          · (refine' Cb.kit_ref ?a ?b ?c ?d; (case a => rfl); (case b => k_is); (case c => k_is); (case d => k_is))
          cases hC
      case tg =>
        refine' ⟨?a1, ?a2, ?a3, ?a4, ?z1, ?z2, ?z3, ?z4, ?z5⟩
        case a1 =>
          refine' Cb.has KX G ?a ?l ?c ?k ?b
          (case a => k_is); (case l => k_is); (case c => k_is); (case k => k_is); (case b => exact fun _ _ _ _ _ _ us hl => match us, hl with | [_, _], _ => rfl)
        case a2 =>
          refine' Cb.has KX G ?a ?l ?c ?k ?b
          (case a => k_is); (case l => k_is); (case c => k_is); (case k => k_is); (case b => exact fun _ _ _ _ _ _ us hl => match us, hl with | [_, _], _ => rfl)
        case a3 =>
          refine' Cb.has KX G ?a ?l ?c ?k ?b
          (case a => k_is); (case l => k_is); (case c => k_is); (case k => k_is); (case b => exact fun _ _ _ _ _ _ us hl => match us, hl with | [_, _], _ => rfl)
        case a4 =>
          refine' Cb.has KX G ?a ?l ?c ?k ?b
          (case a => k_is); (case l => k_is); (case c => k_is); (case k => k_is); (case b => exact fun _ _ _ _ _ _ us hl => match us, hl with | [_, _], _ => rfl)
        case z1 => refine' PySem.W.mg_none_of KX G ?z; (case z => k_is)
        case z2 => refine' PySem.W.mg_none_of KX G ?z; (case z => k_is)
        case z3 => refine' PySem.W.mg_none_of KX G ?z; (case z => k_is)
        case z4 => refine' PySem.W.mg_none_of KX G ?z; (case z => k_is)
        case z5 => refine' PySem.W.mg_none_of KX G ?z; (case z => k_is)
      case tn =>
        refine' ⟨?d0, ?d1, ?d2, ?d3, ?d4, ?d5, ?d6, ?d7, ?d8, ?d9, ?d10, ?d11, ?d12, ?d13, ?d14, ?d15, ?d16, ?k1, ?k2, ?z1, ?z2, ?z3, ?z4, ?z5, ?z6, ?z7, ?g1, ?g2, ?g3, ?g4⟩
        case d0 =>
          refine' Cb.has KX G ?a ?l ?c ?k ?b
          (case a => k_is); (case l => k_is); (case c => k_is); (case k => k_is); (case b => exact fun _ _ _ _ _ _ us hl => match us, hl with | [_], _ => rfl)
        case d1 =>
          refine' Cb.has KX G ?a ?l ?c ?k ?b
          (case a => k_is); (case l => k_is); (case c => k_is); (case k => k_is); (case b => exact fun _ _ _ _ _ _ us hl => match us, hl with | [_], _ => rfl)
        case d2 =>
          refine' Cb.has KX G ?a ?l ?c ?k ?b
          (case a => k_is); (case l => k_is); (case c => k_is); (case k => k_is); (case b => exact fun _ _ _ _ _ _ us hl => match us, hl with | [_], _ => rfl)
        case d3 =>
          refine' Cb.has KX G ?a ?l ?c ?k ?b
          (case a => k_is); (case l => k_is); (case c => k_is); (case k => k_is); (case b => exact fun _ _ _ _ _ _ us hl => match us, hl with | [_], _ => rfl)
        case d4 =>
          refine' Cb.has KX G ?a ?l ?c ?k ?b
          (case a => k_is); (case l => k_is); (case c => k_is); (case k => k_is); (case b => exact fun _ _ _ _ _ _ us hl => match us, hl with | [_], _ => rfl)
        case d5 =>
          refine' Cb.has KX G ?a ?l ?c ?k ?b
          (case a => k_is); (case l => k_is); (case c => k_is); (case k => k_is); (case b => exact fun _ _ _ _ _ _ us hl => match us, hl with | [_, _], _ => rfl)
        case d6 =>
          refine' Cb.has KX G ?a ?l ?c ?k ?b
          (case a => k_is); (case l => k_is); (case c => k_is); (case k => k_is); (case b => exact fun _ _ _ _ _ _ us hl => match us, hl with | [_, _], _ => rfl)
        case d7 =>
          refine' Cb.has KX G ?a ?l ?c ?k ?b
          (case a => k_is); (case l => k_is); (case c => k_is); (case k => k_is); (case b => exact fun _ _ _ _ _ _ us hl => match us, hl with | [_, _], _ => rfl)
        case d8 =>
          refine' Cb.has KX G ?a ?l ?c ?k ?b
          (case a => k_is); (case l => k_is); (case c => k_is); (case k => k_is); (case b => exact fun _ _ _ _ _ _ us hl => match us, hl with | [_, _], _ => rfl)
        case d9 =>
          refine' Cb.has KX G ?a ?l ?c ?k ?b
          (case a => k_is); (case l => k_is); (case c => k_is); (case k => k_is); (case b => exact fun _ _ _ _ _ _ us hl => match us, hl with | [_, _], _ => rfl)
        case d10 =>
          refine' Cb.has KX G ?a ?l ?c ?k ?b
          (case a => k_is); (case l => k_is); (case c => k_is); (case k => k_is); (case b => exact fun _ _ _ _ _ _ us hl => match us, hl with | [_, _], _ => rfl)
        case d11 =>
          refine' Cb.has KX G ?a ?l ?c ?k ?b
          (case a => k_is); (case l => k_is); (case c => k_is); (case k => k_is); (case b => exact fun _ _ _ _ _ _ us hl => match us, hl with | [_, _], _ => rfl)
        case d12 =>
          refine' Cb.has KX G ?a ?l ?c ?k ?b
          (case a => k_is); (case l => k_is); (case c => k_is); (case k => k_is); (case b => exact fun _ _ _ _ _ _ us hl => match us, hl with | [_, _], _ => rfl)
        case d13 =>
          refine' Cb.has KX G ?a ?l ?c ?k ?b
          (case a => k_is); (case l => k_is); (case c => k_is); (case k => k_is); (case b => exact fun _ _ _ _ _ _ us hl => match us, hl with | [_, _], _ => rfl)
        case d14 =>
          refine' Cb.has KX G ?a ?l ?c ?k ?b
          (case a => k_is); (case l => k_is); (case c => k_is); (case k => k_is); (case b => exact fun _ _ _ _ _ _ us hl => match us, hl with | [_, _], _ => rfl)
        case d15 =>
          refine' Cb.has KX G ?a ?l ?c ?k ?b
          (case a => k_is); (case l => k_is); (case c => k_is); (case k => k_is); (case b => exact fun _ _ _ _ _ _ us hl => match us, hl with | [_, _], _ => rfl)
        case d16 =>
          refine' Cb.has KX G ?a ?l ?c ?k ?b
          (case a => k_is); (case l => k_is); (case c => k_is); (case k => k_is); (case b => exact fun _ _ _ _ _ _ us hl => match us, hl with | [_, _], _ => rfl)
        case k1 =>
          refine' Cb.hasK KX G ?a ?l ?c ?k (Cb.kb1 ?b)
          (case a => k_is); (case l => k_is); (case c => k_is); (case k => k_is); (case b => exact fun _ => rfl)
        case k2 =>
          refine' Cb.hasK KX G ?a ?l ?c ?k (Cb.kb2 ?b)
          (case a => k_is); (case l => k_is); (case c => k_is); (case k => k_is); (case b => exact fun _ _ => rfl)
        case z1 => refine' PySem.W.mg_none_of KX G ?z; (case z => k_is)
        case z2 => refine' PySem.W.mg_none_of KX G ?z; (case z => k_is)
        case z3 => refine' PySem.W.mg_none_of KX G ?z; (case z => k_is)
        case z4 => refine' PySem.W.mg_none_of KX G ?z; (case z => k_is)
        case z5 => refine' PySem.W.mg_none_of KX G ?z; (case z => k_is)
        case z6 => refine' PySem.W.mg_none_of KX G ?z; (case z => k_is)
        case z7 => refine' PySem.W.mg_none_of KX G ?z; (case z => k_is)
        case g1 => exact Cb.num_mk KX G rfl
        case g2 => exact Cb.num_mk KX G rfl
        case g3 =>
          refine' ⟨_, _, _, PySem.W.mg_of KX G ?z, ⟨?at_, ?lit, ?low⟩, ?s1, ?s2, ?s3, ?s4, ?s5⟩
          (case z => k_is); (case at_ => k_is)
          case lit => exact ⟨⟨_, _, rfl, rfl⟩, ⟨_, _, rfl, rfl⟩, ⟨_, _, rfl, rfl⟩, ⟨_, _, rfl, rfl⟩, ⟨_, _, rfl, rfl⟩, ⟨_, _, rfl, rfl⟩, ⟨_, _, rfl, rfl⟩, ⟨_, _, rfl, rfl⟩, ⟨_, _, rfl, rfl⟩, ⟨_, _, rfl, rfl⟩, trivial⟩
          case low => rfl
          case s1 =>
            intro z hz
            rcases List.mem_cons.mp hz with rfl | hz
            · refine' Cb.shape_mk ?e1 ?l1 ?sz1 ?v1
              (case e1 => k_is); (case l1 => k_is); (case sz1 => show 3 ≤ sizeLine; decide); (case v1 => exact .cons ⟨_, rfl⟩ (.cons ⟨_, rfl⟩ (.cons ⟨_, rfl⟩ .nil)))
            rcases List.mem_cons.mp hz with rfl | hz
            · refine' Cb.shape_mk ?e2 ?l2 ?sz2 ?v2
              (case e2 => k_is); (case l2 => k_is); (case sz2 => show 3 ≤ sizeLine; decide); (case v2 => exact .cons ⟨_, rfl⟩ (.cons ⟨_, rfl⟩ (.cons ⟨_, rfl⟩ .nil)))
            rcases List.mem_cons.mp hz with rfl | hz
            · refine' Cb.shape_mk ?e3 ?l3 ?sz3 ?v3
              (case e3 => k_is); (case l3 => k_is); (case sz3 => show 3 ≤ sizeLine; decide); (case v3 => exact .cons ⟨_, rfl⟩ (.cons ⟨_, rfl⟩ (.cons ⟨_, rfl⟩ .nil)))
            rcases List.mem_cons.mp hz with rfl | hz
            · refine' Cb.shape_mk ?e4 ?l4 ?sz4 ?v4
              (case e4 => k_is); (case l4 => k_is); (case sz4 => show 3 ≤ sizeLine; decide); (case v4 => exact .cons ⟨_, rfl⟩ (.cons ⟨_, rfl⟩ (.cons ⟨_, rfl⟩ .nil)))
            rcases List.mem_cons.mp hz with rfl | hz
            · refine' Cb.shape_mk ?e5 ?l5 ?sz5 ?v5
              (case e5 => k_is); (case l5 => k_is); (case sz5 => show 3 ≤ sizeLine; decide); (case v5 => exact .cons ⟨_, rfl⟩ (.cons ⟨_, rfl⟩ (.cons ⟨_, rfl⟩ .nil)))
            cases hz
          case s2 =>
            intro z hz
            rcases List.mem_cons.mp hz with rfl | hz
            · refine' Cb.shape_mk ?e6 ?l6 ?sz6 ?v6
              (case e6 => k_is); (case l6 => k_is); (case sz6 => show 3 ≤ sizeLine; decide); (case v6 => exact .cons ⟨_, rfl⟩ (.cons ⟨_, rfl⟩ (.cons ⟨_, rfl⟩ .nil)))
            rcases List.mem_cons.mp hz with rfl | hz
            · refine' Cb.shape_mk ?e7 ?l7 ?sz7 ?v7
              (case e7 => k_is); (case l7 => k_is); (case sz7 => show 3 ≤ sizeLine; decide); (case v7 => exact .cons ⟨_, rfl⟩ (.cons ⟨_, rfl⟩ (.cons ⟨_, rfl⟩ .nil)))
            cases hz
          case s3 =>
            intro z hz
            rcases List.mem_cons.mp hz with rfl | hz
            · refine' Cb.shape_mk ?e8 ?l8 ?sz8 ?v8
              (case e8 => k_is); (case l8 => k_is); (case sz8 => show 3 ≤ sizeLine; decide); (case v8 => exact .cons ⟨_, rfl⟩ (.cons ⟨_, rfl⟩ (.cons ⟨_, rfl⟩ .nil)))
            rcases List.mem_cons.mp hz with rfl | hz
            · refine' Cb.shape_mk ?e9 ?l9 ?sz9 ?v9
              (case e9 => k_is); (case l9 => k_is); (case sz9 => show 3 ≤ sizeLine; decide); (case v9 => exact .cons ⟨_, rfl⟩ (.cons ⟨_, rfl⟩ (.cons ⟨_, rfl⟩ .nil)))
            cases hz
          case s4 =>
            refine' Cb.shape_mk ?e10 ?l10 ?sz10 ?v10
            (case e10 => k_is); (case l10 => k_is); (case sz10 => show 3 ≤ sizeLine; decide); (case v10 => exact .cons ⟨_, rfl⟩ (.cons ⟨_, rfl⟩ (.cons ⟨_, rfl⟩ .nil)))
          case s5 =>
            intro z hz
            rcases List.mem_cons.mp hz with rfl | hz
            · k_is
            rcases List.mem_cons.mp hz with rfl | hz
            · k_is
            rcases List.mem_cons.mp hz with rfl | hz
            · k_is
            rcases List.mem_cons.mp hz with rfl | hz
            · k_is
            rcases List.mem_cons.mp hz with rfl | hz
            · k_is
            cases hz
        case g4 =>
          refine' ⟨_, _, _, PySem.W.mg_of KX G ?z, ⟨?at_, ?lit, ?low⟩, ?s⟩
          (case z => k_is); (case at_ => k_is)
          case lit => exact ⟨⟨_, _, rfl, rfl⟩, ⟨_, _, rfl, rfl⟩, ⟨_, _, rfl, rfl⟩, ⟨_, _, rfl, rfl⟩, ⟨_, _, rfl, rfl⟩, ⟨_, _, rfl, rfl⟩, ⟨_, _, rfl, rfl⟩, ⟨_, _, rfl, rfl⟩, ⟨_, _, rfl, rfl⟩, trivial⟩
          case low => rfl
          case s =>
            intro p hp
            rcases List.mem_cons.mp hp with rfl | hp
            · refine' Cb.work_mk (z := "plus") (x := "plus") KX G ?xplus ?yplus
              (case xplus => k_is); (case yplus => k_is)
            rcases List.mem_cons.mp hp with rfl | hp
            · refine' Cb.work_mk (z := "minus") (x := "minus") KX G ?xminus ?yminus
              (case xminus => k_is); (case yminus => k_is)
            rcases List.mem_cons.mp hp with rfl | hp
            · refine' Cb.work_mk (z := "times") (x := "times") KX G ?xtimes ?ytimes
              (case xtimes => k_is); (case ytimes => k_is)
            rcases List.mem_cons.mp hp with rfl | hp
            · refine' Cb.work_mk (z := "over") (x := "over") KX G ?xover ?yover
              (case xover => k_is); (case yover => k_is)
            rcases List.mem_cons.mp hp with rfl | hp
            · refine' Cb.work_mk (z := "rest") (x := "rest") KX G ?xrest ?yrest
              (case xrest => k_is); (case yrest => k_is)
            rcases List.mem_cons.mp hp with rfl | hp
            · refine' Cb.work_mk (z := "less") (x := "less") KX G ?xless ?yless
              (case xless => k_is); (case yless => k_is)
            rcases List.mem_cons.mp hp with rfl | hp
            · refine' Cb.work_mk (z := "same") (x := "same") KX G ?xsame ?ysame
              (case xsame => k_is); (case ysame => k_is)
            rcases List.mem_cons.mp hp with rfl | hp
            · refine' Cb.work_mk (z := "both") (x := "both") KX G ?xboth ?yboth
              (case xboth => k_is); (case yboth => k_is)
            rcases List.mem_cons.mp hp with rfl | hp
            · refine' Cb.work_mk (z := "any") (x := "either") KX G ?xeither ?yeither
              (case xeither => k_is); (case yeither => k_is)
            cases hp
